/- Contract of Abs. -/
import Derived.Test.YtbijjiadokgmoaaDoorNormI
namespace Go.Proofs.YtbijjiadokgmoaaDoor
open Go.RowKit

/-- A box and a result, no draw. -/
theorem boxes2 (w : World) (a0 a1 r0 r1 : Value) (t : TypeId) : ∃ W : World, W = (w.alloc (.cells #[a0, a1] t)).alloc (.cells #[r0, r1] t) ∧
    W.cell? ⟨w.heap.size, 0, none⟩ = some a0 ∧ W.cell? ⟨w.heap.size, 1, none⟩ = some a1 ∧ W.heap[w.heap.size + 1]? = some (.cells #[r0, r1] t (0, 0)) ∧ W.heap.size = w.heap.size + 2 ∧ Below w.heap.size w W := by
  refine ⟨_, rfl, ?_⟩
  have ha : ((w.alloc (.cells #[a0, a1] t)).alloc (.cells #[r0, r1] t)).heap[w.heap.size]? = some (.cells #[a0, a1] t (0, 0)) :=
    (Below.heap_alloc _ _ _ (by simp)).trans (heap_alloc_new w _)
  have hr : ((w.alloc (.cells #[a0, a1] t)).alloc (.cells #[r0, r1] t)).heap[w.heap.size + 1]? = some (.cells #[r0, r1] t (0, 0)) := by
    have h2 := heap_alloc_new (w.alloc (.cells #[a0, a1] t)) (.cells #[r0, r1] t)
    rw [World.size_alloc] at h2
    exact h2
  obtain ⟨x1, x2, _, _⟩ := two_of_block ha
  exact ⟨x1, x2, hr, by simp, ((Below.refl _ _).alloc (Nat.le_refl _) _).alloc (by simp) _⟩

set_option maxHeartbeats 1600000 in
set_option maxRecDepth 1000000 in
theorem abs_any {B c1 : Nat} {A1 : Option Addr} {xs : List Nat} (n1 : Bool) (w : World) (h1 : Rd w B A1 c1 xs) (hB : B ≤ w.heap.size) (hx : xs.length ≤ 1000000) :
    Calls Tryd.prog 28 #[.agg #[.bool n1, .slice A1 xs.length c1]] w (IntRet w (sgn false (val xs))) := by
  have HT1 := Lib.hid (fun (W : World) (hb : Below w.heap.size w W) => trim_any W (h1.below (hb.mono hB)) hx)
  have HC := Lib.hid (fun (W : World) (hb : Below w.heap.size w W) => clone_any W (h1.digs.below (hb.mono hB)) (by have := digs_le_len h1.dgs; omega))
  have HSG := Lib.hid (fun (W w1 : World) (A : Option Addr) (c : Nat) (hnd : NewD W w1 A c (digs (val xs))) => signed_any false W w1 hnd.rd hnd.fresh)
  clear h1 hx hB
  generalize sgn false (val xs) = z at *
  generalize digs (val xs) = ds at *
  obtain ⟨W, HWE, x1, x2, hr, hsz, hb0⟩ := boxes2 w (.bool n1) (.slice A1 xs.length c1) (.bool false) (.slice none 0 0) 24
  have HR := Lib.hid hr
  have HSZ := Lib.hid hsz
  have HB0 := Lib.hid hb0
  clear hr hsz hb0
  subst HWE
  go_enter Tryd.func28, Tryd.ntmps28
  go_wp2_with (go_at_call 55; ((with_reducible refine (HT1.out _ HB0.out).mono ?_); rintro e w' ⟨rfl, rfl⟩))
  refine (HC.out _ HB0.out).mono ?_
  rintro e w1 ⟨A2, c2, rfl, hnd, hb1⟩
  have HS2 := Lib.hid (HSG.out _ _ _ _ hnd)
  have HB1 := Lib.hid hb1
  clear hnd hb1
  go_wp2_with (go_at_call 57; fail)
  refine HS2.out.mono ?_
  rintro e w2 ⟨v, rfl, hi, hb2⟩
  have hs1 := HB1.out.size
  rw [HSZ.out] at hs1
  have HX0 : Hid (w2.heap[w.heap.size + 1]? = some (.cells #[.bool false, .slice none 0 0] 24 (0, 0))) := (hb2.block _ (by omega)).trans ((HB1.out.block _ (by rw [HSZ.out]; omega)).trans HR.out)
  obtain ⟨z1, z2, z3, z4⟩ := two_of_block HX0.out
  have HI := Lib.hid hi
  obtain ⟨A', c', rfl, _, _⟩ := hi
  have HB2 : Hid (Below w.heap.size w w2) := (HB0.out.trans (HB1.out.mono (by rw [HSZ.out]; omega))).trans (hb2.mono (by omega))
  clear hb2
  go_wp2
  refine bodyPost_ret (v := .agg #[.bool (decide (z < 0)), .slice A' (digs z.natAbs).length c']) ?_ rfl ⟨_, rfl, HI.out.stored2 (by have := HSZ.out; omega) (by have := HSZ.out; omega) _ _, ?_⟩
  · simp [results, Tryd.results28, go_sem, z1, z2]
  exact (HB2.out.setCell (by simp) _).setCell (by simp) _
end Go.Proofs.YtbijjiadokgmoaaDoor
