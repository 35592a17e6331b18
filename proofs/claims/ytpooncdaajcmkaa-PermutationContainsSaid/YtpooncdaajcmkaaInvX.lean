/- The contract of sl2's Inverse. -/
import Derived.Test.YtpooncdaajcmkaaMulL
import Derived.Test.YtpooncdaajcmkaaDetX
namespace Go.Proofs.Ytpooncdaajcmkaa
open Go.RowKit
set_option linter.unusedVariables false
set_option linter.unusedSimpArgs false

set_option maxHeartbeats 1600000 in
theorem inverse_any (a b c d p q r s k : Int) (w : World) (hm : invE ⟨a, b, c, d⟩ = (⟨p, q, r, s⟩, k)) :
    Calls Try.prog 20 #[.agg #[.int .i64 a, .int .i64 b, .int .i64 c, .int .i64 d]] w fun e w' =>
      e = .returned (.tuple #[.agg #[.int .i64 p, .int .i64 q, .int .i64 r, .int .i64 s], .int .i64 k]) ∧ Below w.heap.size w w' := by
  have HE := Lib.hid (fun W => check_any a b c d W)
  unfold invE at hm
  dsimp only at hm
  rcases chk_cases a b c d with ⟨h, k⟩ | ⟨h, h1, k⟩ | ⟨h, h1, k⟩
  all_goals rw [k] at hm HE
  · rw [if_neg (by omega)] at hm
    cases hm
    clear h k
    go_enter Try.func20, Try.ntmps20
    go_wp2_with (first
      | (go_at_call 31; ((with_reducible refine (HE.out _).mono ?_); rintro e w1 ⟨rfl, hb⟩; obtain ⟨hc, hf⟩ := bcell hb; obtain ⟨hz0, hz1⟩ : w.heap.size < w1.heap.size ∧ w.heap.size + 1 < w1.heap.size := (by have := hb.size; (try simp at this); omega); have HBn : Hid (Below w.heap.size w w1) := (by first | exact HB.out.trans (hb.mono HB.out.size) | exact (HB.out.trans ((below1 _ _).mono HB.out.size)).trans (hb.mono (by have := HB.out.size; (try simp); omega)) | exact (below2 _ _ _).trans (hb.mono (by simp; omega)) | fail); have HB := Lib.hid HBn.out; clear HBn hb))
      | fail)
    refine bodyPost_ret (v := .tuple #[.agg #[.int .i64 0, .int .i64 0, .int .i64 0, .int .i64 0], .int .i64 2]) ?_ rfl ⟨rfl, ?_⟩
    · simp [results, Try.results20, go_sem, *]
    · exact below_set4 HB.out (by omega) _ _ _ _
  · rw [if_pos rfl] at hm
    cases hm
    obtain ⟨⟨a1, a2⟩, ⟨b1, b2⟩, ⟨c1, c2⟩, d1, d2⟩ := fitB_iff.1 h
    clear h h1 k
    go_enter Try.func20, Try.ntmps20
    go_wp2_with (first
      | (go_at_call 31; ((with_reducible refine (HE.out _).mono ?_); rintro e w1 ⟨rfl, hb⟩; obtain ⟨hc, hf⟩ := bcell hb; obtain ⟨hz0, hz1⟩ : w.heap.size < w1.heap.size ∧ w.heap.size + 1 < w1.heap.size := (by have := hb.size; (try simp at this); omega); have HBn : Hid (Below w.heap.size w w1) := (by first | exact HB.out.trans (hb.mono HB.out.size) | exact (HB.out.trans ((below1 _ _).mono HB.out.size)).trans (hb.mono (by have := HB.out.size; (try simp); omega)) | exact (below2 _ _ _).trans (hb.mono (by simp; omega)) | fail); have HB := Lib.hid HBn.out; clear HBn hb))
      | fail)
    refine bodyPost_ret (v := .tuple #[.agg #[.int .i64 d, .int .i64 (-b), .int .i64 (-c), .int .i64 a], .int .i64 0]) ?_ rfl ⟨rfl, ?_⟩
    · simp [results, Try.results20, go_sem, *]
    · exact below_set4 HB.out (by omega) _ _ _ _
  · rw [if_neg (by omega)] at hm
    cases hm
    clear h k
    go_enter Try.func20, Try.ntmps20
    go_wp2_with (first
      | (go_at_call 31; ((with_reducible refine (HE.out _).mono ?_); rintro e w1 ⟨rfl, hb⟩; obtain ⟨hc, hf⟩ := bcell hb; obtain ⟨hz0, hz1⟩ : w.heap.size < w1.heap.size ∧ w.heap.size + 1 < w1.heap.size := (by have := hb.size; (try simp at this); omega); have HBn : Hid (Below w.heap.size w w1) := (by first | exact HB.out.trans (hb.mono HB.out.size) | exact (HB.out.trans ((below1 _ _).mono HB.out.size)).trans (hb.mono (by have := HB.out.size; (try simp); omega)) | exact (below2 _ _ _).trans (hb.mono (by simp; omega)) | fail); have HB := Lib.hid HBn.out; clear HBn hb))
      | fail)
    refine bodyPost_ret (v := .tuple #[.agg #[.int .i64 0, .int .i64 0, .int .i64 0, .int .i64 0], .int .i64 12]) ?_ rfl ⟨rfl, ?_⟩
    · simp [results, Try.results20, go_sem, *]
    · exact below_set4 HB.out (by omega) _ _ _ _
end Go.Proofs.Ytpooncdaajcmkaa
