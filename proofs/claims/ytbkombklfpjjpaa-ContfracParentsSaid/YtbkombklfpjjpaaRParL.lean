/- The contract of the reference's Parents. -/
import Derived.Test.YtbkombklfpjjpaaParL
import Derived.Test.YtbkombklfpjjpaaPathO
import Derived.Test.YtbkombklfpjjpaaRConvL
import Derived.Test.YtbkombklfpjjpaaRExpL
import Derived.Test.YtbkombklfpjjpaaValueL
namespace Go.Proofs.Ytbkombklfpjjpaa
open Go.RowKit

set_option maxHeartbeats 3200000 in
set_option maxRecDepth 1000000 in
theorem rparents_any (p q : Int) (w : World) : Calls Try.prog 34 #[.agg #[.int .i64 p, .int .i64 q]] w (ParRet p q w) := by
  have HX := Lib.hid (fun W => rexpand_any p q W)
  by_cases h : cuspI p q = 0
  · obtain ⟨e0, e1, k⟩ := cuspI_zero.1 h
    obtain ⟨p1, p2⟩ := inE_iff.1 e0
    have k0 := k.pos
    by_cases h0 : q = 0
    · have HE : Hid (ParE p q 0 0 0 0 3) := .inr (.inl ⟨h, by omega, rfl, rfl, rfl, rfl, rfl⟩)
      have f1 : expI p q = 5 := by unfold expI; rw [if_neg (by simpa using h), if_pos h0]
      have f2 : exl p q = [] := by unfold exl; rw [if_neg (by simpa using h), if_pos h0]
      rw [f1, f2] at HX
      clear h h0 f1 f2 e0 k
      go_enter Try.func34, Try.ntmps34
      go_wp2_with (first
        | (go_at_call 15; ((with_reducible refine (HX.out _).mono ?_); rintro e w1 ⟨A1, n1, rfl, hr, _, hb⟩; obtain ⟨hc, hf⟩ := bcell hb; obtain ⟨hz0, hz1, hz2⟩ : w.heap.size < w1.heap.size ∧ w.heap.size + 1 < w1.heap.size ∧ w.heap.size + 1 + 1 < w1.heap.size := (by have := hb.size; (try simp at this); omega); have HB := Lib.hid ((below3 w _ _ _).trans (hb.mono (by simp; omega))); clear hr hb))
        | fail)
      refine bodyPost_ret (v := .tuple #[.agg #[.int .i64 0, .int .i64 0], .agg #[.int .i64 0, .int .i64 0], .int .i64 3]) ?_ rfl ⟨0, 0, 0, 0, 3, HE.out, rfl, below_set2 (below_set2 HB.out (by omega) _ _) (by omega) _ _⟩
      simp [results, Try.results34, go_sem, *]
    have f1 : expI p q = 0 := by unfold expI; rw [if_neg (by simpa using h), if_neg h0]
    have f2 : exl p q = cfe p q := by unfold exl; rw [if_neg (by simpa using h), if_neg h0]
    rw [f1, f2] at HX
    by_cases h1 : q = 1
    · have HE : Hid (ParE p q 0 0 0 0 3) := .inr (.inl ⟨h, by omega, rfl, rfl, rfl, rfl, rfl⟩)
      have HX1 : Hid (∀ W, Calls Try.prog 15 #[.agg #[.int .i64 p, .int .i64 q]] W fun e w' => ∃ A c, e = .returned (.tuple #[.slice A 1 c, .int .i64 0]) ∧ RdZ w' w'.heap.size A c [p] ∧ (∀ a, A = some a → W.heap.size ≤ a.block) ∧ Below W.heap.size W w') := by
        intro W
        have := HX.out W
        rw [show cfe p q = [p] by rw [h1]; exact cfe_one] at this
        exact this
      clear h h0 h1 f1 f2 e0 k HX
      go_enter Try.func34, Try.ntmps34
      go_wp2_with (first
        | (go_at_call 15; ((with_reducible refine (HX1.out _).mono ?_); rintro e w1 ⟨A1, n1, rfl, hr, _, hb⟩; obtain ⟨hc, hf⟩ := bcell hb; obtain ⟨hz0, hz1, hz2⟩ : w.heap.size < w1.heap.size ∧ w.heap.size + 1 < w1.heap.size ∧ w.heap.size + 1 + 1 < w1.heap.size := (by have := hb.size; (try simp at this); omega); have HB := Lib.hid ((below3 w _ _ _).trans (hb.mono (by simp; omega))); clear hr hb))
        | fail)
      refine bodyPost_ret (v := .tuple #[.agg #[.int .i64 0, .int .i64 0], .agg #[.int .i64 0, .int .i64 0], .int .i64 3]) ?_ rfl ⟨0, 0, 0, 0, 3, HE.out, rfl, below_set2 (below_set2 HB.out (by omega) _ _) (by omega) _ _⟩
      simp [results, Try.results34, go_sem, *]
    have h2 : 2 ≤ q := by omega
    obtain ⟨C, L, a, b, c1, c2, c3, c4, c5, b1, b2, a0, b0⟩ := par_conv h h2
    obtain ⟨a1, a2⟩ := inE_iff.1 a0
    obtain ⟨v1, v2⟩ := cvI_ok (cfe_ne (by omega)) (elB_cfe h (by omega)) c1
    have HC := Lib.hid (fun (W : World) A c (hr : RdZ W W.heap.size A c (cfe p q)) => rconv_any W hr)
    have HOC : Hid (∀ (W : World) A c B, W.ownsRow B 23 2 (.slice A (L + 2) c) (L + 2) (cs C) → RdC W W.heap.size A c C) := fun W A c B h => own_rdc (by rw [c2]; exact h)
    have HG := Lib.hid c4
    have HL3 := Lib.hid c3
    have hLL : (L : Int) + 2 ≤ 64 := by have := cfe_len64 h (show 0 < q by omega); omega
    obtain ⟨m1, m2⟩ := prod_le p1 p2 (show -1073741824 ≤ b by omega) (show b ≤ 1073741824 by omega)
    obtain ⟨m3, m4⟩ := prod_le a1 a2 (show -1073741824 ≤ b by omega) (show b ≤ 1073741824 by omega)
    obtain ⟨m5, m6⟩ := prod_le a1 a2 (show -1073741824 ≤ q by omega) (show q ≤ 1073741824 by omega)
    have t1 : (p - a) * b = p * b - a * b := Int.sub_mul _ _ _
    have t2 : a * (q - b) = a * q - a * b := Int.mul_sub _ _ _
    have n1 : -4611686018427387904 ≤ (p - a) * b := by omega
    have n2 : (p - a) * b ≤ 4611686018427387904 := by omega
    have n3 : -4611686018427387904 ≤ a * (q - b) := by omega
    have n4 : a * (q - b) ≤ 4611686018427387904 := by omega
    have HE : Hid (∀ x y, ParIs p q x y → ParE p q x y (p - x) (q - y) 0) := fun x y hx => .inr (.inr ⟨h, h2, hx, rfl, rfl, rfl⟩)
    rw [v1, v2, c2] at HC
    rw [c3] at HC
    have HX2 : Hid (∀ W, Calls Try.prog 15 #[.agg #[.int .i64 p, .int .i64 q]] W fun e w' => ∃ A c, e = .returned (.tuple #[.slice A (L + 2) c, .int .i64 0]) ∧ RdZ w' w'.heap.size A c (cfe p q) ∧ (∀ a, A = some a → W.heap.size ≤ a.block) ∧ Below W.heap.size W w') := by
      intro W
      have := HX.out W
      unfold ExpRet at this
      rw [c3] at this
      exact this
    clear HX c1 c2 c3 c4 v1 v2 h0 h1 f1 f2 h e0 k a0 b0
    generalize cfe p q = l at *
    rcases c5 with c5 | c5
    · have hlt : (p - a) * b < a * (q - b) := by omega
      have hP : ParIs p q (p - a) (q - b) := ⟨by rw [Int.mul_sub, Int.sub_mul]; omega, by omega, by omega⟩
      have e3 : p - (p - a) = a := by omega
      have e4 : q - (q - b) = b := by omega
      have HP : Hid (ParE p q (p - a) (q - b) a b 0) := by
        have := HE.out _ _ hP
        rw [e3, e4] at this
        exact this
      clear hP e3 e4 HE c5 t1 t2 m1 m2 m3 m4 m5 m6
      go_enter Try.func34, Try.ntmps34
      go_upto_region 11 with (first
        | (go_at_call 15; ((with_reducible refine (HX2.out _).mono ?_); rintro e w1 ⟨A1, n1, rfl, hr, _, hb⟩; obtain ⟨hc, hf⟩ := bcell hb; obtain ⟨hz0, hz1, hz2⟩ : w.heap.size < w1.heap.size ∧ w.heap.size + 1 < w1.heap.size ∧ w.heap.size + 1 + 1 < w1.heap.size := (by have := hb.size; (try simp at this); omega); have HR := Lib.hid hr; have HB := Lib.hid ((below3 w _ _ _).trans (hb.mono (by simp; omega))); clear hr hb))
        | (go_at_call 19; ((with_reducible refine (HC.out _ _ _ HR.out).mono ?_); rintro e w2 ⟨A2, n2, rfl, hown, hb⟩; obtain ⟨g, rfl, hg⟩ := own_some hown (by omega); have RC := Lib.hid (HOC.out _ _ _ _ hown); obtain ⟨hc2, hf2⟩ := bcell hb; obtain ⟨hz3, hz4, hz5⟩ : w.heap.size < w2.heap.size ∧ w.heap.size + 1 < w2.heap.size ∧ w.heap.size + 1 + 1 < w2.heap.size := (by have := hb.size; omega); have HB2 := Lib.hid (HB.out.trans (hb.mono HB.out.size)); obtain ⟨x0, x1⟩ := RC.out.get2 HG.out; rw [Nat.zero_add] at x0 x1; clear hown hb))
        | fail)
      have hw1 := HB2.out.size
      go_region
      go_wp2
      refine bodyPost_ret (v := .tuple #[.agg #[.int .i64 (p - a), .int .i64 (q - b)], .agg #[.int .i64 a, .int .i64 b], .int .i64 0]) ?_ rfl ⟨(p - a), (q - b), a, b, 0, HP.out, rfl, ?_⟩
      · simp [results, Try.results34, go_sem, *]
      · first | exact (((below_set2 (below_set2 HB2.out (by omega) _ _) (by omega) _ _).alloc (by simp; omega) _).alloc (by simp; omega) _).drew | fail
    · have hle : a * (q - b) ≤ (p - a) * b := by omega
      have hP : ParIs p q a b := ⟨by omega, by omega, by omega⟩
      have HP := Lib.hid (HE.out _ _ hP)
      clear hP HE c5 t1 t2 m1 m2 m3 m4 m5 m6
      go_enter Try.func34, Try.ntmps34
      go_upto_region 11 with (first
        | (go_at_call 15; ((with_reducible refine (HX2.out _).mono ?_); rintro e w1 ⟨A1, n1, rfl, hr, _, hb⟩; obtain ⟨hc, hf⟩ := bcell hb; obtain ⟨hz0, hz1, hz2⟩ : w.heap.size < w1.heap.size ∧ w.heap.size + 1 < w1.heap.size ∧ w.heap.size + 1 + 1 < w1.heap.size := (by have := hb.size; (try simp at this); omega); have HR := Lib.hid hr; have HB := Lib.hid ((below3 w _ _ _).trans (hb.mono (by simp; omega))); clear hr hb))
        | (go_at_call 19; ((with_reducible refine (HC.out _ _ _ HR.out).mono ?_); rintro e w2 ⟨A2, n2, rfl, hown, hb⟩; obtain ⟨g, rfl, hg⟩ := own_some hown (by omega); have RC := Lib.hid (HOC.out _ _ _ _ hown); obtain ⟨hc2, hf2⟩ := bcell hb; obtain ⟨hz3, hz4, hz5⟩ : w.heap.size < w2.heap.size ∧ w.heap.size + 1 < w2.heap.size ∧ w.heap.size + 1 + 1 < w2.heap.size := (by have := hb.size; omega); have HB2 := Lib.hid (HB.out.trans (hb.mono HB.out.size)); obtain ⟨x0, x1⟩ := RC.out.get2 HG.out; rw [Nat.zero_add] at x0 x1; clear hown hb))
        | fail)
      have hw1 := HB2.out.size
      go_region
      go_wp2
      refine bodyPost_ret (v := .tuple #[.agg #[.int .i64 a, .int .i64 b], .agg #[.int .i64 (p - a), .int .i64 (q - b)], .int .i64 0]) ?_ rfl ⟨a, b, (p - a), (q - b), 0, HP.out, rfl, ?_⟩
      · simp [results, Try.results34, go_sem, *]
      · first | exact (((below_set2 (below_set2 HB2.out (by omega) _ _) (by omega) _ _).alloc (by simp; omega) _).alloc (by simp; omega) _).drew | fail
  · have f1 : expI p q = cuspI p q := by unfold expI; rw [if_pos h]
    have f2 : exl p q = [] := by unfold exl; rw [if_pos h]
    rw [f1, f2] at HX
    clear f1 f2
    rcases cusp_vals p q with h0 | h0 | h0
    · exact absurd h0 h
    · have HE : Hid (ParE p q 0 0 0 0 (cuspI p q)) := .inl ⟨h, rfl, rfl, rfl, rfl, rfl⟩
      rw [h0] at HX HE
      clear h h0
      go_enter Try.func34, Try.ntmps34
      go_wp2_with (first
        | (go_at_call 15; ((with_reducible refine (HX.out _).mono ?_); rintro e w1 ⟨A1, n1, rfl, hr, _, hb⟩; obtain ⟨hc, hf⟩ := bcell hb; obtain ⟨hz0, hz1, hz2⟩ : w.heap.size < w1.heap.size ∧ w.heap.size + 1 < w1.heap.size ∧ w.heap.size + 1 + 1 < w1.heap.size := (by have := hb.size; (try simp at this); omega); have HB := Lib.hid ((below3 w _ _ _).trans (hb.mono (by simp; omega))); clear hr hb))
        | fail)
      refine bodyPost_ret (v := .tuple #[.agg #[.int .i64 0, .int .i64 0], .agg #[.int .i64 0, .int .i64 0], .int .i64 2]) ?_ rfl ⟨0, 0, 0, 0, 2, HE.out, rfl, below_set2 (below_set2 HB.out (by omega) _ _) (by omega) _ _⟩
      simp [results, Try.results34, go_sem, *]
    · have HE : Hid (ParE p q 0 0 0 0 (cuspI p q)) := .inl ⟨h, rfl, rfl, rfl, rfl, rfl⟩
      rw [h0] at HX HE
      clear h h0
      go_enter Try.func34, Try.ntmps34
      go_wp2_with (first
        | (go_at_call 15; ((with_reducible refine (HX.out _).mono ?_); rintro e w1 ⟨A1, n1, rfl, hr, _, hb⟩; obtain ⟨hc, hf⟩ := bcell hb; obtain ⟨hz0, hz1, hz2⟩ : w.heap.size < w1.heap.size ∧ w.heap.size + 1 < w1.heap.size ∧ w.heap.size + 1 + 1 < w1.heap.size := (by have := hb.size; (try simp at this); omega); have HB := Lib.hid ((below3 w _ _ _).trans (hb.mono (by simp; omega))); clear hr hb))
        | fail)
      refine bodyPost_ret (v := .tuple #[.agg #[.int .i64 0, .int .i64 0], .agg #[.int .i64 0, .int .i64 0], .int .i64 3]) ?_ rfl ⟨0, 0, 0, 0, 3, HE.out, rfl, below_set2 (below_set2 HB.out (by omega) _ _) (by omega) _ _⟩
      simp [results, Try.results34, go_sem, *]
end Go.Proofs.Ytbkombklfpjjpaa
