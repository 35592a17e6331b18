/- Contract of Sub. -/
import Derived.Test.YtbijjiadokgmoaaDoorAddI
namespace Go.Proofs.YtbijjiadokgmoaaDoor
open Go.RowKit

set_option maxHeartbeats 3200000 in
set_option maxRecDepth 1000000 in
theorem sub_any {B c1 c2 : Nat} {A1 A2 : Option Addr} {xs ys : List Nat} (n1 n2 : Bool) (w : World) (h1 : Rd w B A1 c1 xs) (h2 : Rd w B A2 c2 ys) (hB : B ≤ w.heap.size) (hx : xs.length ≤ 1000000) (hy : ys.length ≤ 1000000) :
    Calls Tryd.prog 32 #[.agg #[.bool n1, .slice A1 xs.length c1], .agg #[.bool n2, .slice A2 ys.length c2]] w (IntRet w (sgn n1 (val xs) + sgn (!n2) (val ys))) := by
  have HT1 := Lib.hid (fun (W : World) (hb : Below w.heap.size w W) => trim_still W (h1.below (hb.mono hB)) hx)
  have HT2 := Lib.hid (fun (W : World) (hb : Below w.heap.size w W) => trim_still W (h2.below (hb.mono hB)) hy)
  have HS := Lib.hid (fun (W : World) (hb : Below w.heap.size w W) => addSigned_any n1 (!n2) W (h1.digs.below (hb.mono hB)) (h2.digs.below (hb.mono hB)) (by have := hb.size; omega) (by have := digs_le_len h1.dgs; omega) (by have := digs_le_len h2.dgs; omega))
  clear h1 h2
  generalize hz : sgn n1 (val xs) + sgn (!n2) (val ys) = z at *
  clear hz
  obtain ⟨W, HWE, x1, x2, y1, y2, hr, hsz, hb0⟩ := boxes3 w (.bool n1) (.slice A1 xs.length c1) (.bool n2) (.slice A2 ys.length c2) (.bool false) (.slice none 0 0) 24
  have HE := Lib.hid HWE
  have HR := Lib.hid hr
  have HSZ := Lib.hid hsz
  have HB0 := Lib.hid hb0
  clear HWE hr hsz hb0
  go_enter Tryd.func32, Tryd.ntmps32
  go_wp2_with fail
  refine wp_region_still_tail 11 (by kernel_rfl) (by kernel_rfl) ?_
  simp only [List.take_succ_cons, List.take_zero, List.drop_succ_cons, List.drop_zero]
  change wpStill _ _ (World.drew _) (fun a' => wpList _ _ _ _ a' (World.drew _)) _ _
  rw [← HE.out]
  still_step
  still_step
  still_step
  still_step
  still_call (HT1.out _ HB0.out)
  still_step
  still_step
  still_step
  still_step
  still_step
  still_call (HT2.out _ HB0.out)
  refine wpStill_nil ?_
  go_wp2_with (go_at_call 64; fail)
  refine (HS.out _ HB0.out).mono ?_
  rintro e w2 ⟨v, rfl, hi, hb2⟩
  have hx0 : w2.heap[w.heap.size + 1 + 1]? = some (.cells #[.bool false, .slice none 0 0] 24 (0, 0)) := (hb2.block _ (by have := HSZ.out; omega)).trans HR.out
  obtain ⟨z1, z2, z3, z4⟩ := two_of_block hx0
  have HI := Lib.hid hi
  obtain ⟨A', c', rfl, _, _⟩ := hi
  have HB2 := Lib.hid hb2
  clear hx0 hb2
  go_wp2
  refine bodyPost_ret (v := .agg #[.bool (decide (z < 0)), .slice A' (digs z.natAbs).length c']) ?_ rfl ⟨_, rfl, HI.out.stored2 (by have := HSZ.out; omega) (by have := HSZ.out; omega) _ _, ?_⟩
  · simp [results, Tryd.results32, go_sem, z1, z2]
  exact ((HB0.out.trans (HB2.out.mono (by have := HSZ.out; omega))).setCell (by simp; omega) _).setCell (by simp; omega) _
end Go.Proofs.YtbijjiadokgmoaaDoor
