/- BigintRing where an integer has too many digits to be looked at. -/
import Derived.Test.YtbijjiadokgmoaaDoorRingSt
namespace Go.Proofs.YtbijjiadokgmoaaDoor
open Go.RowKit

set_option maxHeartbeats 0 in
set_option maxRecDepth 1000000 in
theorem ring_long {k1 k2 k3 : Nat} {A1 A2 A3 : Option Addr} {xs ys zs : List Nat} (n1 n2 n3 : Bool) (w : World) (hl : 40 < xs.length ∨ 40 < ys.length ∨ 40 < zs.length) :
    Calls Tryd.prog 5 #[.agg #[.bool n1, .slice A1 xs.length k1], .agg #[.bool n2, .slice A2 ys.length k2], .agg #[.bool n3, .slice A3 zs.length k3]] w fun e w' => e = .returned (.bool true) ∧ Below w.heap.size w w' := by
  generalize xs.length = la at *
  generalize ys.length = lb at *
  generalize zs.length = lc at *
  have HAW := Lib.hid awake_any
  go_enter Tryd.func5, Tryd.ntmps5
  go_wp2_with (go_at_call 13; fail)
  refine (HAW.out _).mono ?_
  rintro e w1 ⟨rfl, hb1⟩
  have HS1 : Hid (RSt w w1 (.bool n1) (.slice A1 la k1) (.bool n2) (.slice A2 lb k2) (.bool n3) (.slice A3 lc k3)) := by
    have h0 : RSt w _ (.bool n1) (.slice A1 la k1) (.bool n2) (.slice A2 lb k2) (.bool n3) (.slice A3 lc k3) := ⟨((Gr.refl w).alloc (.cells #[.bool n1, .slice A1 la k1] 24)).alloc (.cells #[.bool n2, .slice A2 lb k2] 24) |>.alloc (.cells #[.bool n3, .slice A3 lc k3] 24), ?_, ?_, ?_⟩
    · exact h0.next hb1
    · exact ((TwoAt.new w _ _).gr ((Gr.refl _).alloc _)).gr ((Gr.refl _).alloc _)
    · have := TwoAt.new (w.alloc (.cells #[.bool n1, .slice A1 la k1] 24)) (.bool n2) (.slice A2 lb k2)
      rw [World.size_alloc] at this
      exact this.gr ((Gr.refl _).alloc _)
    · have := TwoAt.new ((w.alloc (.cells #[.bool n1, .slice A1 la k1] 24)).alloc (.cells #[.bool n2, .slice A2 lb k2] 24)) (.bool n3) (.slice A3 lc k3)
      rw [World.size_alloc, World.size_alloc] at this
      exact this
  obtain ⟨x1, x2, x3, x4, x5, x6⟩ := HS1.out.cells
  clear hb1
  go_wp2_with (go_at_call 14; fail)
  refine (long3_yes (l1 := la) (l2 := lb) (l3 := lc) (c1 := k1) (c2 := k2) (c3 := k3) (A1 := A1) (A2 := A2) (A3 := A3) _ (by rw [cell_of_row _ _ 1 _ _ _ (heap_alloc_new w1 _)]; rfl) (by rw [cell_of_row _ _ 3 _ _ _ (heap_alloc_new w1 _)]; rfl) (by rw [cell_of_row _ _ 5 _ _ _ (heap_alloc_new w1 _)]; rfl) hl).mono ?_
  rintro e w2 ⟨rfl, hw2⟩
  have HS2 : Hid (Gr w w2) := by
    rw [← hw2]; exact HS1.out.gr.alloc _
  clear hw2 x1 x2 x3 x4 x5 x6 HS1
  go_wp2
  go_ret
  exact ⟨rfl, HS2.out⟩
end Go.Proofs.YtbijjiadokgmoaaDoor
