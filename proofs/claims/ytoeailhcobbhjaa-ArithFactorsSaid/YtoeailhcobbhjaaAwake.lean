/- The guard of every law: awake() is true. -/
import Derived.Test.YtoeailhcobbhjaaPhi
import Derived.Test.YtoeailhcobbhjaaCrtL
import Derived.Deep.LoopGhost
namespace Go.Proofs.Ytoeailhcobbhjaa
open Go.RowKit

set_option maxHeartbeats 800000 in
theorem symbolOfTwo_7 (w : World) : Calls Try.prog 72 #[.int .u64 7] w fun e w' => e = .returned (.int .i64 1) ∧ w = w' := by
  go_enter Try.func72, Try.ntmps72
  go_wp2
  go_ret
  exact ⟨rfl, rfl⟩
set_option maxHeartbeats 800000 in
theorem jacobi_47 (w : World) : Calls Try.prog 73 #[.int .u64 4, .int .u64 7] w fun e w' => e = .returned (.int .i64 1) ∧ w = w' := by
  go_enter Try.func73, Try.ntmps73
  go_wp2
  refine wp_loop_rounds 2 ?_
  rw [rounds_succ]
  go_wp2
  refine wp_loop_rounds 3 ?_
  rw [rounds_succ]
  go_wp2_with (go_at_call 72; ((with_reducible refine (symbolOfTwo_7 _).mono ?_); rintro e w' ⟨rfl, rfl⟩))
  rw [rounds_succ]
  go_wp2_with (go_at_call 72; ((with_reducible refine (symbolOfTwo_7 _).mono ?_); rintro e w' ⟨rfl, rfl⟩))
  rw [rounds_succ]
  go_wp2
  rw [rounds_succ]
  go_wp2
  go_ret
  exact ⟨rfl, rfl⟩
set_option maxHeartbeats 800000 in
theorem kronecker_47 (w : World) : Calls Try.prog 42 #[.int .i64 (-4), .int .i64 7] w fun e w' => e = .returned (.int .i64 (-1)) ∧ w = w' := by
  have h7 := absolute_any 7 w (by omega) (by omega)
  have h4 := absolute_any (-4) w (by omega) (by omega)
  rw [show ((Int.natAbs 7 : Nat) : Int) = 7 from rfl] at h7
  rw [show ((Int.natAbs (-4) : Nat) : Int) = 4 from rfl] at h4
  have H7 := Lib.hid h7
  have H4 := Lib.hid h4
  clear h7 h4
  go_enter Try.func42, Try.ntmps42
  go_wp2_with (first | (go_at_call 56; ((with_reducible refine H7.out.mono ?_); rintro e w' ⟨rfl, rfl⟩)) | (go_at_call 56; ((with_reducible refine H4.out.mono ?_); rintro e w' ⟨rfl, rfl⟩)))
  refine wp_loop_rounds 1 ?_
  rw [rounds_succ]
  go_wp2_with (first | (go_at_call 56; ((with_reducible refine H4.out.mono ?_); rintro e w' ⟨rfl, rfl⟩)) | (go_at_call 73; ((with_reducible refine (jacobi_47 _).mono ?_); rintro e w' ⟨rfl, rfl⟩)))
  go_ret
  exact ⟨rfl, rfl⟩

theorem facs_12 : facs 2 12 = [(2, 2), (3, 1)] := by decide
theorem phi_12 (w : World) : Calls Try.prog 30 #[.int .i64 12] w fun e w' => e = .returned (.tuple #[.int .i64 4, .int .i64 0]) ∧ Below w.heap.size w w' := by
  have h := phi_F 12 [(2, 2), (3, 1)] facs_12 w (by omega) (by omega) (by
    intro k hk
    match k, hk with
    | 0, _ => simp
    | 1, _ => simp) (by simp)
  exact h
theorem crt_math {r m e : Int} (h : CrtIs [(2, 4), (4, 6)] 0 1 r m e) : r = 10 ∧ m = 12 ∧ e = 0 := by
  have c1 : CombIs 0 1 2 4 2 4 0 := .inr (.inr (.inr ⟨by omega, by decide, by decide, by omega, by omega, by decide, by decide, rfl⟩))
  have c2 : CombIs 2 4 4 6 10 12 0 := .inr (.inr (.inr ⟨by omega, by decide, by decide, by omega, by omega, by decide, by decide, rfl⟩))
  rcases h with ⟨h1, _, _, h2⟩ | ⟨r1, m1, h1, h⟩
  · exact absurd (CombIs.unique h2 c1).2.2 h1
  · obtain ⟨rfl, rfl, _⟩ := CombIs.unique h1 c1
    rcases h with ⟨h1, _, _, h2⟩ | ⟨r1, m1, h1, h⟩
    · exact absurd (CombIs.unique h2 c2).2.2 h1
    · obtain ⟨rfl, rfl, _⟩ := CombIs.unique h1 c2
      obtain ⟨rfl, rfl, rfl⟩ := h
      exact ⟨rfl, rfl, rfl⟩

theorem crt_12 (w : World) : Calls Try.prog 51 #[.slice (some ⟨w.heap.size, 0, none⟩) 2 2] (w.alloc (.cells #[.int .i64 2, .int .i64 4, .int .i64 4, .int .i64 6] 67)) fun e w' =>
    e = .returned (.tuple #[.agg #[.int .i64 10, .int .i64 12], .int .i64 0]) ∧ Below w.heap.size w w' := by
  have h := crt_some [(2, 4), (4, 6)] ⟨w.heap.size, 0, none⟩ 2 (w.alloc (.cells #[.int .i64 2, .int .i64 4, .int .i64 4, .int .i64 6] 67)) (by simp) (by omega) (fun _ => by simp) (by
    intro k hk
    match k, hk with
    | 0, _ => simp [Addr.add]
    | 1, _ => simp [Addr.add])
  refine h.mono fun e w' ⟨r, m, e0, he, hc, hb⟩ => ?_
  obtain ⟨rfl, rfl, rfl⟩ := crt_math hc
  exact ⟨he, ((Below.refl _ _).alloc (Nat.le_refl _) _).trans (hb.mono (by simp))⟩

set_option maxHeartbeats 800000 in
theorem awake_any (w : World) : Calls Try.prog 15 #[] w fun e w' => e = .returned (.bool true) ∧ Below w.heap.size w w' := by
  go_enter Try.func15, Try.ntmps15
  go_wp2_with (first | (go_at_call 30; ((with_reducible refine (phi_12 _).mono ?_); rintro e w1 ⟨rfl, hb1⟩; have HB := Lib.hid hb1; have hs1 := hb1.size; clear hb1)) | (go_at_call 51; ((with_reducible refine (crt_12 _).mono ?_); rintro e w2 ⟨rfl, hb2⟩; have HB2 := Lib.hid hb2; have hs2 := hb2.size; clear hb2)) | (go_at_call 42; ((with_reducible refine (kronecker_47 _).mono ?_); rintro e w3 ⟨rfl, rfl⟩)))
  go_ret
  exact ⟨rfl, (HB.out.trans (HB2.out.mono hs1)).alloc (by omega) _⟩
end Go.Proofs.Ytoeailhcobbhjaa
