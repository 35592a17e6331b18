/- The guard of every law of cusps: awake() is true. -/
import Derived.Test.YtoledgfclmddmaaLst0L
import Derived.Test.YtoledgfclmddmaaEq4L
import Derived.Test.YtoledgfclmddmaaRAtkL
namespace Go.Proofs.Ytoledgfclmddmaa
open Go.RowKit

theorem list0_9 (w : World) : Calls Try.prog 17 #[.int .i64 9] w fun e w' => ∃ (A : Option Addr) (c : Nat), e = .returned (.tuple #[.slice A 4 c, .int .i64 0]) ∧ RdC w' w'.heap.size A c [(1, 1), (1, 3), (2, 3), (1, 9)] ∧ Below w.heap.size w w' := by
  refine (list0_any 9 w (by decide) (by decide)).mono ?_
  rintro e w' ⟨M, A, c, he, hd, ho, hb⟩
  have h1 : outL 9 (sorted M) = [(1, 1), (1, 3), (2, 3), (1, 9)] := by
    rw [sorted_dvs (D := 3) hd (by decide) (by decide) (by decide)]
    decide +kernel
  rw [h1] at he ho
  exact ⟨A, c, he, own_rdc ho, hb⟩
theorem atk_62 : AtkE 6 2 4 1 6 2 0 := .yes 2 (by decide) (by decide) (by decide) (by decide) (by decide) ⟨by decide, by decide, by decide⟩
theorem atkin_62 (w : World) : Calls Try.prog 21 #[.int .i64 6, .int .i64 2] w fun e w' => e = .returned (.tuple #[.agg #[.int .i64 4, .int .i64 1, .int .i64 6, .int .i64 2], .int .i64 0]) ∧ Below w.heap.size w w' := by
  refine (atkin_any 6 2 w).mono ?_
  rintro e w' ⟨a, b, c, d, k, h, he, hb⟩
  obtain ⟨rfl, rfl, rfl, rfl, rfl⟩ := h.unique atk_62
  exact ⟨he, hb⟩
theorem rdc4 (w : World) (a b c d e f p q : Int) (t : TypeId) {g : Nat} (hg : g = w.heap.size) : RdC (w.alloc (.cells #[.int .i64 a, .int .i64 b, .int .i64 c, .int .i64 d, .int .i64 e, .int .i64 f, .int .i64 p, .int .i64 q] t)) (w.heap.size + 1) (some ⟨g, 0, none⟩) 4 [(a, b), (c, d), (e, f), (p, q)] := by
  subst hg
  refine ⟨by simp, by unfold maxLen; omega, fun _ => ⟨w.heap.size, 0, rfl, by omega, fun k hk => ?_⟩, fun a ha => by cases ha; exact ⟨_, _, rfl⟩⟩
  match k, hk with
  | 0, _ => simp
  | 1, _ => simp
  | 2, _ => simp
  | 3, _ => simp
theorem same4 {B1 B2 c1 c2 : Nat} {A1 A2 : Option Addr} (w : World) (h1 : RdC w B1 A1 c1 [(1, 1), (1, 3), (2, 3), (1, 9)]) (h2 : RdC w B2 A2 c2 [(1, 1), (1, 3), (2, 3), (1, 9)]) :
    Calls Try.prog 19 #[.slice A1 4 c1, .slice A2 4 c2] w fun e w' => e = .returned (.bool true) ∧ ∃ n, w' = w.drewN n := by
  have := same_any w h1 h2
  rwa [show ([(1, 1), (1, 3), (2, 3), (1, 9)] : List (Int × Int)).length = 4 from rfl] at this
set_option maxHeartbeats 1600000 in
set_option maxRecDepth 1000000 in
theorem awake_any (w : World) : Calls Try.prog 7 #[] w fun e w' => e = .returned (.bool true) ∧ Below w.heap.size w w' := by
  go_enter Try.func7, Try.ntmps7
  go_upto_region 5 with (first
    | (go_at_call 17; ((with_reducible refine (list0_9 _).mono ?_); rintro e w1 ⟨A1, c1, rfl, hr, hb⟩; have HR1 := Lib.hid hr; have HB1 := Lib.hid hb; clear hr hb))
    | (go_at_call 20; ((with_reducible refine (equal0_4 _).mono ?_); rintro e w2 ⟨rfl, hb⟩; have HR2 := Lib.hid (HR1.out.below hb); have HB2 := Lib.hid (bel0 HB1.out hb); have hz2 : w1.heap.size ≤ w2.heap.size := hb.size; clear hb))
    | (go_at_call 21; ((with_reducible refine (atkin_62 _).mono ?_); rintro e w3 ⟨rfl, hb⟩; have HB3 := Lib.hid (bel1 HB2.out hb); have HF3 : Hid (Four w3 w2.heap.size 1 0 4 1) := (Four.at w2 rfl 1 0 4 1).below hb; have HR3 : Hid (RdC w3 w1.heap.size A1 c1 [(1, 1), (1, 3), (2, 3), (1, 9)]) := (HR2.out.below ((below1 w2 _).mono hz2)).below (hb.mono (by simp; omega)); have hz3 : w2.heap.size < w3.heap.size := HF3.out.lt; clear hb))
    | fail)
  have hc := HF3.out.cells
  obtain ⟨k1, k2, k3, k4⟩ := hc
  go_wp2_with (first
    | (go_at_call 19; ((with_reducible refine (same4 _ (HR3.out.below ((below2 w3 _ _).mono (by omega))) (rdc4 _ 1 1 1 3 2 3 1 9 _ (by simp))).mono ?_); rintro e w5 ⟨rfl, n5, rfl⟩))
    | fail)
  go_ret
  exact ⟨rfl, below_drewN (HB3.out.trans ((below2 w3 _ _).mono HB3.out.size)) n5⟩
end Go.Proofs.Ytoledgfclmddmaa
