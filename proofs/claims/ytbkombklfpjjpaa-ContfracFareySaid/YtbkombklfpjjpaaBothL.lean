/- The contract of checkBoth. -/
import Derived.Test.YtbkombklfpjjpaaExpL
namespace Go.Proofs.Ytbkombklfpjjpaa
open Go.RowKit

/-- The first error of two cusps. -/
def bothI (a b c d : Int) : Int := if cuspI a b ≠ 0 then cuspI a b else cuspI c d
theorem bothI_bad {a b c d : Int} (h : cuspI a b ≠ 0) : bothI a b c d = cuspI a b := if_pos h
theorem bothI_good {a b c d : Int} (h : cuspI a b = 0) : bothI a b c d = cuspI c d := if_neg (by simpa using h)
set_option maxHeartbeats 1600000 in
set_option maxRecDepth 1000000 in
theorem checkBoth_any (a b c d : Int) (w : World) :
    Calls Try.prog 45 #[.agg #[.int .i64 a, .int .i64 b], .agg #[.int .i64 c, .int .i64 d]] w fun e w' => e = .returned (.int .i64 (bothI a b c d)) ∧ Below w.heap.size w w' := by
  have HC := Lib.hid (fun W => checkCusp_any a b W)
  have HD := Lib.hid (fun W => checkCusp_any c d W)
  by_cases h : cuspI a b = 0
  · rw [bothI_good h]
    rw [h] at HC
    clear h
    generalize cuspI c d = k at *
    go_enter Try.func45, Try.ntmps45
    go_wp2_with (first
      | (go_at_call 21; ((with_reducible first | refine (HC.out _).mono ?_ | refine (HD.out _).mono ?_ | fail); rintro e w1 ⟨rfl, hb⟩; obtain ⟨hc, hf⟩ := bcell hb; obtain ⟨hz0, hz1⟩ : w.heap.size < w1.heap.size ∧ w.heap.size + 1 < w1.heap.size := (by have := hb.size; (try simp at this); omega); have HBn : Hid (Below w.heap.size w w1) := (by first | exact HB.out.trans (hb.mono HB.out.size) | exact (below2 _ _ _).trans (hb.mono (by simp; omega)) | fail); have HB := Lib.hid HBn.out; clear HBn hb))
      | fail)
    refine bodyPost_ret (v := .int .i64 k) ?_ rfl ⟨rfl, HB.out⟩
    simp [results, Try.results45, go_sem, *]
  · rw [bothI_bad h]
    rcases cusp_vals a b with h0 | h0 | h0
    · exact absurd h0 h
    all_goals
      rw [h0] at HC ⊢
      clear h h0 HD
      go_enter Try.func45, Try.ntmps45
      go_wp2_with (first
        | (go_at_call 21; ((with_reducible refine (HC.out _).mono ?_); rintro e w1 ⟨rfl, hb⟩; obtain ⟨hc, hf⟩ := bcell hb; have HB := Lib.hid ((below2 w _ _).trans (hb.mono (by simp; omega))); clear hb))
        | fail)
      first
        | (refine bodyPost_ret (v := .int .i64 2) ?_ rfl ⟨rfl, HB.out⟩; simp [results, Try.results45, go_sem, *])
        | (refine bodyPost_ret (v := .int .i64 3) ?_ rfl ⟨rfl, HB.out⟩; simp [results, Try.results45, go_sem, *])
end Go.Proofs.Ytbkombklfpjjpaa
