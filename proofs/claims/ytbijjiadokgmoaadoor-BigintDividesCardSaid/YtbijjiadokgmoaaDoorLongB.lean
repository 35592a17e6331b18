/- Contracts of long at two and three integers. -/
import Derived.Test.YtbijjiadokgmoaaDoorTrim
namespace Go.Proofs.YtbijjiadokgmoaaDoor
open Go.RowKit

set_option maxHeartbeats 1600000 in
set_option maxRecDepth 1000000 in
theorem long3_no {g l1 l2 l3 c1 c2 c3 : Nat} {A1 A2 A3 : Option Addr} (w : World) (h1 : w.cell? ⟨g, 1, none⟩ = some (.slice A1 l1 c1)) (h2 : w.cell? ⟨g, 3, none⟩ = some (.slice A2 l2 c2)) (h3 : w.cell? ⟨g, 5, none⟩ = some (.slice A3 l3 c3)) (b1 : l1 ≤ 40) (b2 : l2 ≤ 40) (b3 : l3 ≤ 40) :
    Calls Tryd.prog 14 #[.slice (some ⟨g, 0, none⟩) 3 3] w fun e w' => e = .returned (.bool false) ∧ w = w' := by
  have k1 : decide ((40 : Int) < (l1 : Int)) = false := decide_eq_false (by omega)
  have k2 : decide ((40 : Int) < (l2 : Int)) = false := decide_eq_false (by omega)
  have k3 : decide ((40 : Int) < (l3 : Int)) = false := decide_eq_false (by omega)
  go_enter Tryd.func14, Tryd.ntmps14
  go_wp2
  refine wp_loop_rounds 4 ?_
  rw [rounds_succ]
  go_wp2
  rw [rounds_succ]
  go_wp2
  rw [rounds_succ]
  go_wp2
  rw [rounds_succ]
  go_wp2
  go_ret
  exact ⟨rfl, rfl⟩
set_option maxHeartbeats 1600000 in
set_option maxRecDepth 1000000 in
theorem long3_yes {g l1 l2 l3 c1 c2 c3 : Nat} {A1 A2 A3 : Option Addr} (w : World) (h1 : w.cell? ⟨g, 1, none⟩ = some (.slice A1 l1 c1)) (h2 : w.cell? ⟨g, 3, none⟩ = some (.slice A2 l2 c2)) (h3 : w.cell? ⟨g, 5, none⟩ = some (.slice A3 l3 c3)) (b : 40 < l1 ∨ 40 < l2 ∨ 40 < l3) :
    Calls Tryd.prog 14 #[.slice (some ⟨g, 0, none⟩) 3 3] w fun e w' => e = .returned (.bool true) ∧ w = w' := by
  by_cases k1 : 40 < l1
  · have k1' : decide ((40 : Int) < (l1 : Int)) = true := decide_eq_true (by omega)
    clear b
    go_enter Tryd.func14, Tryd.ntmps14
    go_wp2
    refine wp_loop_rounds 4 ?_
    rw [rounds_succ]
    go_wp2
    go_ret
    exact ⟨rfl, rfl⟩
  · have k1' : decide ((40 : Int) < (l1 : Int)) = false := decide_eq_false (by omega)
    by_cases k2 : 40 < l2
    · have k2' : decide ((40 : Int) < (l2 : Int)) = true := decide_eq_true (by omega)
      clear b k1
      go_enter Tryd.func14, Tryd.ntmps14
      go_wp2
      refine wp_loop_rounds 4 ?_
      rw [rounds_succ]
      go_wp2
      rw [rounds_succ]
      go_wp2
      go_ret
      exact ⟨rfl, rfl⟩
    · have k2' : decide ((40 : Int) < (l2 : Int)) = false := decide_eq_false (by omega)
      have k3' : decide ((40 : Int) < (l3 : Int)) = true := decide_eq_true (by omega)
      clear b k1 k2
      go_enter Tryd.func14, Tryd.ntmps14
      go_wp2
      refine wp_loop_rounds 4 ?_
      rw [rounds_succ]
      go_wp2
      rw [rounds_succ]
      go_wp2
      rw [rounds_succ]
      go_wp2
      go_ret
      exact ⟨rfl, rfl⟩
end Go.Proofs.YtbijjiadokgmoaaDoor
