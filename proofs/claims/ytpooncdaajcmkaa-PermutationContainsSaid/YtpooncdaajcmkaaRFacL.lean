/- The contract of the reference's Factor whole, and of its Abelian. -/
import Derived.Test.YtpooncdaajcmkaaRWordL
namespace Go.Proofs.Ytpooncdaajcmkaa
open Go.RowKit

set_option maxHeartbeats 1600000 in
set_option maxRecDepth 1000000 in
theorem rfactor_no (a b c d : Int) (w : World) (h : ¬ chkI a b c d = 0) : Calls Try.prog 46 #[.agg #[.int .i64 a, .int .i64 b, .int .i64 c, .int .i64 d]] w fun e w' => ∃ k, FacRet w ⟨a, b, c, d⟩ k e w' := by
  have HC := Lib.hid (fun W => rcheck_any a b c d W)
  have HK : Hid (¬ chkI a b c d = 0) := h
  have hk1 : (chkI a b c d != 0) = true := by simpa using h
  obtain ⟨kk, hkk⟩ : ∃ kk, kk = chkI a b c d := ⟨_, rfl⟩
  rw [← hkk] at HC HK hk1
  have HKK := Lib.hid hkk
  clear h hkk
  go_enter Try.func46, Try.ntmps46
  go_wp2_with (first
    | (go_at_call 64; ((with_reducible refine (HC.out _).mono ?_); rintro e w1 ⟨rfl, hb⟩; obtain ⟨hc, hf⟩ := bcell hb; obtain ⟨hz0, hz1⟩ : w.heap.size < w1.heap.size ∧ w.heap.size + 1 < w1.heap.size := (by have := hb.size; (try simp at this); omega); have HBn : Hid (Below w.heap.size w w1) := (by first | exact HB.out.trans (hb.mono HB.out.size) | exact (HB.out.trans ((below1 _ _).mono HB.out.size)).trans (hb.mono (by have := HB.out.size; (try simp); omega)) | exact (below2 _ _ _).trans (hb.mono (by simp; omega)) | fail); have HB := Lib.hid HBn.out; clear HBn hb))
    | fail)
  refine bodyPost_ret (v := .tuple #[.agg #[.bool false, .slice none 0 0], .int .i64 kk]) ?_ rfl ⟨kk, false, none, 0, [], rfl, ?_, by simp, ⟨HKK.out, ?_, ?_⟩, below_set2 HB.out (by omega) _ _⟩
  · simp [results, Try.results46, go_sem, *]
  · exact ⟨by simp, by unfold maxLen; omega, fun h0 => by simp at h0, fun _ h0 => by cases h0⟩
  · rw [if_neg HK.out]
  · rw [if_neg HK.out]
theorem rfactor_any (a b c d : Int) (w : World) : Calls Try.prog 46 #[.agg #[.int .i64 a, .int .i64 b, .int .i64 c, .int .i64 d]] w fun e w' => ∃ k, FacRet w ⟨a, b, c, d⟩ k e w' := by
  by_cases h : chkI a b c d = 0
  · rcases chk_cases a b c d with ⟨_, k⟩ | ⟨h1, h2, _⟩ | ⟨_, _, k⟩
    · omega
    · exact rfactor_yes a b c d w h1 h2 h
    · omega
  · exact rfactor_no a b c d w h
end Go.Proofs.Ytpooncdaajcmkaa
