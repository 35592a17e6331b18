/- The contract of Of. -/
import Derived.Test.YtbijjiadokgmoaaDoorRNorm
namespace Go.Proofs.YtbijjiadokgmoaaDoor
open Go.RowKit

set_option maxHeartbeats 800000 in
set_option maxRecDepth 1000000 in
theorem absolute_neg {n a : Int} {m : Nat} (w : World) (h : n < 0) (e1 : IntKind.u64.wrap n = a) (e2 : IntKind.u64.wrap (-a) = (m : Int)) :
    Calls Tryd.prog 59 #[.int .i64 n] w fun e w' => e = .returned (.int .u64 (m : Int)) ∧ w = w' := by
  go_enter Tryd.func59, Tryd.ntmps59
  go_wp2
  go_ret
  exact ⟨rfl, rfl⟩
set_option maxHeartbeats 800000 in
set_option maxRecDepth 1000000 in
theorem absolute_pos {n : Int} {m : Nat} (w : World) (hb : decide (n < 0) = false) (e2 : IntKind.u64.wrap n = (m : Int)) :
    Calls Tryd.prog 59 #[.int .i64 n] w fun e w' => e = .returned (.int .u64 (m : Int)) ∧ w = w' := by
  go_enter Tryd.func59, Tryd.ntmps59
  go_wp2
  go_ret
  exact ⟨rfl, rfl⟩
theorem absolute_any {n : Int} (w : World) (h1 : -9223372036854775808 ≤ n) (h2 : n ≤ 9223372036854775807) :
    Calls Tryd.prog 59 #[.int .i64 n] w fun e w' => e = .returned (.int .u64 (n.natAbs : Int)) ∧ w = w' := by
  rcases Int.lt_or_le n 0 with h | h
  · obtain ⟨a, e1, e2⟩ := u64_of_neg h h1
    exact absolute_neg w h e1 e2
  · exact absolute_pos w (decide_eq_false (by omega)) (u64_of_pos h h2)

set_option maxHeartbeats 1600000 in
set_option maxRecDepth 1000000 in
theorem of_any {n : Int} (w : World) (h1 : -9223372036854775808 ≤ n) (h2 : n ≤ 9223372036854775807) : Calls Tryd.prog 16 #[.int .i64 n] w (IntRet w n) := by
  have HA := Lib.hid (fun W => absolute_any W h1 h2)
  have hm : n.natAbs < 18446744073709551616 := by omega
  have HF := Lib.hid (fun W => fromWord_any W hm)
  have HSG : Hid (∀ (W w1 : World) (A : Option Addr) (c : Nat), Rd w1 w1.heap.size A c (digs n.natAbs) → (∀ a, A = some a → W.heap.size ≤ a.block) → Calls Tryd.prog 57 #[.bool (decide (n < 0)), .slice A (digs n.natAbs).length c] w1 fun e w' => ∃ v, e = .returned v ∧ IntIn W w' v n ∧ Below w1.heap.size w1 w') := fun W w1 A c hr hf => by
    have := signed_any (decide (n < 0)) W w1 hr hf
    rwa [show sgn (decide (n < 0)) n.natAbs = n by unfold sgn; by_cases h : n < 0 <;> simp [h] <;> omega] at this
  clear h1 h2 hm
  generalize n.natAbs = m at *
  generalize hb : decide (n < 0) = bb at *
  have HBB := Lib.hid hb
  go_enter Tryd.func16, Tryd.ntmps16
  go_wp2_with (first
    | (go_at_call 59; ((with_reducible refine (HA.out _).mono ?_); rintro e w' ⟨rfl, rfl⟩))
    | (go_at_call 58; fail))
  refine (HF.out _).mono ?_
  rintro e w1 ⟨A, c, rfl, hr1, hf1, hb1⟩
  have HSS := Lib.hid (HSG.out _ _ _ _ hr1 hf1)
  have HB1 := Lib.hid hb1
  clear hr1 hf1 hb1
  go_wp2_with (go_at_call 57; fail)
  refine HSS.out.mono ?_
  rintro e w2 ⟨v, rfl, hi, hb2⟩
  have hs1 := HB1.out.size
  simp only [World.size_alloc] at hs1
  have hx0 : w2.heap[w.heap.size]? = some (.cells #[.bool false, .slice none 0 0] 24 (0, 0)) := (hb2.block _ (by omega)).trans ((HB1.out.block _ (by simp)).trans (heap_alloc_new w _))
  obtain ⟨z1, z2, z3, z4⟩ := two_of_block hx0
  have HI := Lib.hid hi
  obtain ⟨A', c', rfl, _, _⟩ := hi
  have HB2 : Hid (Below w.heap.size w w2) := (((Below.refl _ _).alloc (Nat.le_refl _) _).trans (HB1.out.mono (by simp))).trans (hb2.mono (by omega))
  clear hb2 hx0
  go_wp2
  refine bodyPost_ret (v := .agg #[.bool bb, .slice A' (digs n.natAbs).length c']) ?_ rfl ⟨_, by rw [← HBB.out], HI.out.stored _ _, (HB2.out.setCell (by simp) _).setCell (by simp) _⟩
  simp [results, Tryd.results16, go_sem, z1, z2]
end Go.Proofs.YtbijjiadokgmoaaDoor
