/- Contract of Neg. -/
import Derived.Test.YtbijjiadokgmoaaDoorNormI
namespace Go.Proofs.YtbijjiadokgmoaaDoor
open Go.RowKit

set_option maxHeartbeats 1600000 in
set_option maxRecDepth 1000000 in
theorem neg_any {B c1 : Nat} {A1 : Option Addr} {xs : List Nat} (n1 : Bool) (w : World) (h1 : Rd w B A1 c1 xs) (hB : B ≤ w.heap.size) (hx : xs.length ≤ 1000000) :
    Calls Tryd.prog 26 #[.agg #[.bool n1, .slice A1 xs.length c1]] w (IntRet w (sgn (!n1) (val xs))) := by
  have HT1 := Lib.hid (fun (W : World) (hb : Below w.heap.size w W) => trim_any W (h1.below (hb.mono hB)) hx)
  have HC := Lib.hid (fun (W : World) (hb : Below w.heap.size w W) => clone_any W (h1.digs.below (hb.mono hB)) (by have := digs_le_len h1.dgs; omega))
  have HSG := Lib.hid (fun (W w1 : World) (A : Option Addr) (c : Nat) (hnd : NewD W w1 A c (digs (val xs))) => signed_any (!n1) W w1 hnd.rd hnd.fresh)
  clear h1 hx hB
  generalize sgn (!n1) (val xs) = z at *
  generalize digs (val xs) = ds at *
  go_enter Tryd.func26, Tryd.ntmps26
  go_wp2_with fail
  go_region_with ((first
    | (go_at_call 55; ((with_reducible refine (HT1.out _ (by repeat' (first | exact Below.refl _ _ | (refine Below.drew ?_) | (refine Below.alloc ?_ ?_ _) | (simp; done) | (simp; omega)))).mono ?_); rintro e w' ⟨rfl, rfl⟩))
    | (go_at_call 61; ((with_reducible refine (HC.out _ (by repeat' (first | exact Below.refl _ _ | (refine Below.drew ?_) | (refine Below.alloc ?_ ?_ _) | (simp; done) | (simp; omega)))).mono ?_); rintro e w1 ⟨A2, c2, rfl, hnd, hb1⟩; have HS2 := Lib.hid (HSG.out _ _ _ _ hnd); have HB1 := Lib.hid hb1; have hz1 := hb1.size; obtain ⟨y1, y2, y3, y4⟩ := two_of_block (box_cell1 hb1); clear hnd hb1))
    | (go_at_call 57; ((with_reducible refine HS2.out.mono ?_); rintro e w2 ⟨v, rfl, hi, hb2⟩; have HI := Lib.hid hi; obtain ⟨A', c', hv, _, _⟩ := hi; subst hv; have HB2 := Lib.hid hb2; have hx0 : w2.heap[w.heap.size + 1]? = some (.cells #[.bool false, .slice none 0 0] 24 (0, 0)) := res_cell1 HB1.out hb2; obtain ⟨x1, x2, x3, x4⟩ := two_of_block hx0; clear hx0 hb2))))
  all_goals
    go_wp2
    refine bodyPost_ret (v := .agg #[.bool (decide (z < 0)), .slice A' (digs z.natAbs).length c']) ?_ rfl ⟨_, rfl, HI.out.stored2 (by simp) (by simp; omega) _ _, ?_⟩
    · simp [results, Tryd.results26, go_sem, x1, x2]
    refine Below.setCell (Below.setCell (Below.trans (Below.trans ?_ (HB1.out.mono (by simp; omega))) (HB2.out.mono (by simp at hz1; omega))) (by simp) _) (by simp) _
    exact (((Below.refl _ _).alloc (Nat.le_refl _) _).alloc (by simp) _).drew
end Go.Proofs.YtbijjiadokgmoaaDoor
