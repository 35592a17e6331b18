/- Contracts of Add and Sub. -/
import Derived.Test.YtbijjiadokgmoaaDoorNormI
import Derived.StillTailTactics
namespace Go.Proofs.YtbijjiadokgmoaaDoor
open Go.RowKit

theorem trim_still {B c : Nat} {A : Option Addr} {ds : List Nat} (w : World) (h : Rd w B A c ds) (hn : ds.length ≤ 1000000) :
    Calls Tryd.prog 55 #[.slice A ds.length c] w fun e w' => e = .returned (.slice A (digs (val ds)).length c) ∧ w' = w :=
  (trim_any w h hn).mono fun _ _ ⟨h1, h2⟩ => ⟨h1, h2.symm⟩
/-- Two boxes, a result, a draw. -/
theorem boxes3 (w : World) (a0 a1 b0 b1 r0 r1 : Value) (t : TypeId) : ∃ W : World, W = (((w.alloc (.cells #[a0, a1] t)).alloc (.cells #[b0, b1] t)).alloc (.cells #[r0, r1] t)).drew ∧
    W.cell? ⟨w.heap.size, 0, none⟩ = some a0 ∧ W.cell? ⟨w.heap.size, 1, none⟩ = some a1 ∧ W.cell? ⟨w.heap.size + 1, 0, none⟩ = some b0 ∧ W.cell? ⟨w.heap.size + 1, 1, none⟩ = some b1 ∧
    W.heap[w.heap.size + 1 + 1]? = some (.cells #[r0, r1] t (0, 0)) ∧ W.heap.size = w.heap.size + 3 ∧ Below w.heap.size w W := by
  refine ⟨_, rfl, ?_⟩
  have ha : ((((w.alloc (.cells #[a0, a1] t)).alloc (.cells #[b0, b1] t)).alloc (.cells #[r0, r1] t)).drew).heap[w.heap.size]? = some (.cells #[a0, a1] t (0, 0)) :=
    (Below.heap_alloc _ _ _ (by simp; omega)).trans ((Below.heap_alloc _ _ _ (by simp)).trans (heap_alloc_new w _))
  have hb : ((((w.alloc (.cells #[a0, a1] t)).alloc (.cells #[b0, b1] t)).alloc (.cells #[r0, r1] t)).drew).heap[w.heap.size + 1]? = some (.cells #[b0, b1] t (0, 0)) := by
    have h2 := heap_alloc_new (w.alloc (.cells #[a0, a1] t)) (.cells #[b0, b1] t)
    rw [World.size_alloc] at h2
    exact (Below.heap_alloc _ _ _ (by simp)).trans h2
  have hr : ((((w.alloc (.cells #[a0, a1] t)).alloc (.cells #[b0, b1] t)).alloc (.cells #[r0, r1] t)).drew).heap[w.heap.size + 1 + 1]? = some (.cells #[r0, r1] t (0, 0)) := by
    have h2 := heap_alloc_new ((w.alloc (.cells #[a0, a1] t)).alloc (.cells #[b0, b1] t)) (.cells #[r0, r1] t)
    rw [World.size_alloc, World.size_alloc] at h2
    exact h2
  obtain ⟨x1, x2, _, _⟩ := two_of_block ha
  obtain ⟨y1, y2, _, _⟩ := two_of_block hb
  exact ⟨x1, x2, y1, y2, hr, by simp, ((((Below.refl _ _).alloc (Nat.le_refl _) _).alloc (by simp) _).alloc (by simp; omega) _).drew⟩

set_option maxHeartbeats 3200000 in
set_option maxRecDepth 1000000 in
theorem add_any {B c1 c2 : Nat} {A1 A2 : Option Addr} {xs ys : List Nat} (n1 n2 : Bool) (w : World) (h1 : Rd w B A1 c1 xs) (h2 : Rd w B A2 c2 ys) (hB : B ≤ w.heap.size) (hx : xs.length ≤ 1000000) (hy : ys.length ≤ 1000000) :
    Calls Tryd.prog 30 #[.agg #[.bool n1, .slice A1 xs.length c1], .agg #[.bool n2, .slice A2 ys.length c2]] w (IntRet w (sgn n1 (val xs) + sgn n2 (val ys))) := by
  have HT1 := Lib.hid (fun (W : World) (hb : Below w.heap.size w W) => trim_still W (h1.below (hb.mono hB)) hx)
  have HT2 := Lib.hid (fun (W : World) (hb : Below w.heap.size w W) => trim_still W (h2.below (hb.mono hB)) hy)
  have HS := Lib.hid (fun (W : World) (hb : Below w.heap.size w W) => addSigned_any n1 n2 W (h1.digs.below (hb.mono hB)) (h2.digs.below (hb.mono hB)) (by have := hb.size; omega) (by have := digs_le_len h1.dgs; omega) (by have := digs_le_len h2.dgs; omega))
  clear h1 h2
  generalize hz : sgn n1 (val xs) + sgn n2 (val ys) = z at *
  clear hz
  obtain ⟨W, HWE, x1, x2, y1, y2, hr, hsz, hb0⟩ := boxes3 w (.bool n1) (.slice A1 xs.length c1) (.bool n2) (.slice A2 ys.length c2) (.bool false) (.slice none 0 0) 24
  have HE := Lib.hid HWE
  have HR := Lib.hid hr
  have HSZ := Lib.hid hsz
  have HB0 := Lib.hid hb0
  clear HWE hr hsz hb0
  go_enter Tryd.func30, Tryd.ntmps30
  go_wp2_with fail
  refine wp_region_still_tail 10 (by kernel_rfl) (by kernel_rfl) ?_
  simp only [List.take_succ_cons, List.take_zero, List.drop_succ_cons, List.drop_zero]
  change wpStill _ _ (World.drew _) (fun a' => wpList _ _ _ _ a' (World.drew _)) _ _
  rw [← HE.out]
  still_step
  still_step
  still_step
  still_step
  still_call (HT1.out _ HB0.out)
  still_step
  still_step
  still_step
  still_step
  still_call (HT2.out _ HB0.out)
  refine wpStill_nil ?_
  go_wp2_with (go_at_call 64; fail)
  refine (HS.out _ HB0.out).mono ?_
  rintro e w2 ⟨v, rfl, hi, hb2⟩
  have hx0 : w2.heap[w.heap.size + 1 + 1]? = some (.cells #[.bool false, .slice none 0 0] 24 (0, 0)) := (hb2.block _ (by have := HSZ.out; omega)).trans HR.out
  obtain ⟨z1, z2, z3, z4⟩ := two_of_block hx0
  have HI := Lib.hid hi
  obtain ⟨A', c', rfl, _, _⟩ := hi
  have HB2 := Lib.hid hb2
  clear hx0 hb2
  go_wp2
  refine bodyPost_ret (v := .agg #[.bool (decide (z < 0)), .slice A' (digs z.natAbs).length c']) ?_ rfl ⟨_, rfl, HI.out.stored2 (by have := HSZ.out; omega) (by have := HSZ.out; omega) _ _, ?_⟩
  · simp [results, Tryd.results30, go_sem, z1, z2]
  exact ((HB0.out.trans (HB2.out.mono (by have := HSZ.out; omega))).setCell (by simp; omega) _).setCell (by simp; omega) _
end Go.Proofs.YtbijjiadokgmoaaDoor
