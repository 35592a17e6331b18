/- Contracts of Mul, Inverse and of the reference's Mul. -/
import Derived.Test.YtdgfdbifeopiaaaDetL
namespace Go.Proofs.Ytdgfdbifeopiaaa
open Go.RowKit

/-- The answer of Mul. -/
def mulE (x y : M) : M × Int := if (x.ok && y.ok) = false then (.zero, 2) else if (x.mul y).ok = false then (.zero, 7) else (x.mul y, 0)
theorem mulE_out {x y : M} (h : x.ok = false ∨ y.ok = false) : mulE x y = (.zero, 2) := if_pos (by rcases h with h | h <;> rw [h] <;> simp)
theorem mulE_large {x y : M} (hx : x.ok = true) (hy : y.ok = true) (h : (x.mul y).ok = false) : mulE x y = (.zero, 7) := by
  unfold mulE; rw [hx, hy, if_neg (by simp), if_pos h]
theorem mulE_ok {x y : M} (hx : x.ok = true) (hy : y.ok = true) (h : (x.mul y).ok = true) : mulE x y = (x.mul y, 0) := by
  unfold mulE; rw [hx, hy, if_neg (by simp), if_neg (by rw [h]; simp)]
/-- The answer of Inverse. -/
def invE (x : M) : M × Int := if chkI x.a x.b x.c x.d = 0 then (x.inv, 0) else (.zero, chkI x.a x.b x.c x.d)

set_option maxHeartbeats 1600000 in
theorem mul_any (a b c d a' b' c' d' p q r s k : Int) (w : World) (hm : mulE ⟨a, b, c, d⟩ ⟨a', b', c', d'⟩ = (⟨p, q, r, s⟩, k)) :
    Calls Try.prog 29 #[.agg #[.int .i64 a, .int .i64 b, .int .i64 c, .int .i64 d], .agg #[.int .i64 a', .int .i64 b', .int .i64 c', .int .i64 d']] w fun e w' =>
      e = .returned (.tuple #[.agg #[.int .i64 p, .int .i64 q, .int .i64 r, .int .i64 s], .int .i64 k]) ∧ Below w.heap.size w w' := by
  have HE := Lib.hid (fun W => areEntries_any a b c d W)
  have HF := Lib.hid (fun W => areEntries_any a' b' c' d' W)
  cases hx : fitB a b c d with
  | false =>
    have hx' : (M.mk a b c d).ok = false := hx
    rw [mulE_out (.inl hx')] at hm
    cases hm
    rw [hx] at HE
    clear hx hx' HF
    go_enter Try.func29, Try.ntmps29
    go_wp2_with (first
      | (go_at_call 44; ((with_reducible refine (HE.out _).mono ?_); rintro e w1 ⟨rfl, hb⟩; obtain ⟨hc, hf⟩ := bcell hb; obtain ⟨hz0, hz1, hz2⟩ : w.heap.size < w1.heap.size ∧ w.heap.size + 1 < w1.heap.size ∧ w.heap.size + 1 + 1 < w1.heap.size := (by have := hb.size; (try simp at this); omega); have HBn : Hid (Below w.heap.size w w1) := (by first | exact HB.out.trans (hb.mono HB.out.size) | exact (HB.out.trans ((below1 _ _).mono HB.out.size)).trans (hb.mono (by have := HB.out.size; (try simp); omega)) | exact (below3 _ _ _ _).trans (hb.mono (by simp; omega)) | fail); have HB := Lib.hid HBn.out; clear HBn hb))
      | fail)
    refine bodyPost_ret (v := .tuple #[.agg #[.int .i64 0, .int .i64 0, .int .i64 0, .int .i64 0], .int .i64 2]) ?_ rfl ⟨rfl, ?_⟩
    · simp [results, Try.results29, go_sem, *]
    · exact below_set4 HB.out (by omega) _ _ _ _
  | true =>
    have hx' : (M.mk a b c d).ok = true := hx
    rw [hx] at HE
    cases hy : fitB a' b' c' d' with
    | false =>
      have hy' : (M.mk a' b' c' d').ok = false := hy
      rw [mulE_out (.inr hy')] at hm
      cases hm
      rw [hy] at HF
      clear hx hx' hy hy'
      go_enter Try.func29, Try.ntmps29
      go_wp2_with (first
        | (go_at_call 44; ((with_reducible refine (HE.out _).mono ?_); rintro e w1 ⟨rfl, hb⟩; obtain ⟨hc, hf⟩ := bcell hb; obtain ⟨hz0, hz1, hz2⟩ : w.heap.size < w1.heap.size ∧ w.heap.size + 1 < w1.heap.size ∧ w.heap.size + 1 + 1 < w1.heap.size := (by have := hb.size; (try simp at this); omega); have HBn : Hid (Below w.heap.size w w1) := (by first | exact HB.out.trans (hb.mono HB.out.size) | exact (HB.out.trans ((below1 _ _).mono HB.out.size)).trans (hb.mono (by have := HB.out.size; (try simp); omega)) | exact (below3 _ _ _ _).trans (hb.mono (by simp; omega)) | fail); have HB := Lib.hid HBn.out; clear HBn hb))
        | (go_at_call 44; ((with_reducible refine (HF.out _).mono ?_); rintro e w2 ⟨rfl, hb⟩; obtain ⟨hc, hf⟩ := bcell hb; obtain ⟨hz0, hz1, hz2⟩ : w.heap.size < w2.heap.size ∧ w.heap.size + 1 < w2.heap.size ∧ w.heap.size + 1 + 1 < w2.heap.size := (by have := hb.size; (try simp at this); omega); have HBn : Hid (Below w.heap.size w w2) := (by first | exact HB.out.trans (hb.mono HB.out.size) | exact (HB.out.trans ((below1 _ _).mono HB.out.size)).trans (hb.mono (by have := HB.out.size; (try simp); omega)) | exact (below3 _ _ _ _).trans (hb.mono (by simp; omega)) | fail); have HB := Lib.hid HBn.out; clear HBn hb))
        | fail)
      refine bodyPost_ret (v := .tuple #[.agg #[.int .i64 0, .int .i64 0, .int .i64 0, .int .i64 0], .int .i64 2]) ?_ rfl ⟨rfl, ?_⟩
      · simp [results, Try.results29, go_sem, *]
      · exact below_set4 HB.out (by omega) _ _ _ _
    | true =>
      have hy' : (M.mk a' b' c' d').ok = true := hy
      rw [hy] at HF
      have HP := Lib.hid (fun W => product_yes a b c d a' b' c' d' W hx hy)
      cases hm2 : ((M.mk a b c d).mul ⟨a', b', c', d'⟩).ok with
      | false =>
        rw [mulE_large hx' hy' hm2] at hm
        cases hm
        have HG := Lib.hid (fun W => areEntries_any (a * a' + b * c') (a * b' + b * d') (c * a' + d * c') (c * b' + d * d') W)
        rw [show fitB (a * a' + b * c') (a * b' + b * d') (c * a' + d * c') (c * b' + d * d') = false from hm2] at HG
        clear hx hy hx' hy' hm2
        generalize a * a' + b * c' = p at *
        generalize a * b' + b * d' = q at *
        generalize c * a' + d * c' = r at *
        generalize c * b' + d * d' = s at *
        go_enter Try.func29, Try.ntmps29
        go_wp2_with (first
          | (go_at_call 44; ((with_reducible refine (HE.out _).mono ?_); rintro e w1 ⟨rfl, hb⟩; obtain ⟨hc, hf⟩ := bcell hb; obtain ⟨hz0, hz1, hz2⟩ : w.heap.size < w1.heap.size ∧ w.heap.size + 1 < w1.heap.size ∧ w.heap.size + 1 + 1 < w1.heap.size := (by have := hb.size; (try simp at this); omega); have HBn : Hid (Below w.heap.size w w1) := (by first | exact HB.out.trans (hb.mono HB.out.size) | exact (HB.out.trans ((below1 _ _).mono HB.out.size)).trans (hb.mono (by have := HB.out.size; (try simp); omega)) | exact (below3 _ _ _ _).trans (hb.mono (by simp; omega)) | fail); have HB := Lib.hid HBn.out; clear HBn hb))
          | (go_at_call 44; ((with_reducible refine (HF.out _).mono ?_); rintro e w2 ⟨rfl, hb⟩; obtain ⟨hc, hf⟩ := bcell hb; obtain ⟨hz0, hz1, hz2⟩ : w.heap.size < w2.heap.size ∧ w.heap.size + 1 < w2.heap.size ∧ w.heap.size + 1 + 1 < w2.heap.size := (by have := hb.size; (try simp at this); omega); have HBn : Hid (Below w.heap.size w w2) := (by first | exact HB.out.trans (hb.mono HB.out.size) | exact (HB.out.trans ((below1 _ _).mono HB.out.size)).trans (hb.mono (by have := HB.out.size; (try simp); omega)) | exact (below3 _ _ _ _).trans (hb.mono (by simp; omega)) | fail); have HB := Lib.hid HBn.out; clear HBn hb))
          | (go_at_call 45; ((with_reducible refine (HP.out _).mono ?_); rintro e w3 ⟨rfl, hb⟩; obtain ⟨hc, hf⟩ := bcell hb; obtain ⟨hz0, hz1, hz2⟩ : w.heap.size < w3.heap.size ∧ w.heap.size + 1 < w3.heap.size ∧ w.heap.size + 1 + 1 < w3.heap.size := (by have := hb.size; (try simp at this); omega); have HBn : Hid (Below w.heap.size w w3) := (by first | exact HB.out.trans (hb.mono HB.out.size) | exact (HB.out.trans ((below1 _ _).mono HB.out.size)).trans (hb.mono (by have := HB.out.size; (try simp); omega)) | exact (below3 _ _ _ _).trans (hb.mono (by simp; omega)) | fail); have HB := Lib.hid HBn.out; clear HBn hb))
          | (go_at_call 44; ((with_reducible refine (HG.out _).mono ?_); rintro e w4 ⟨rfl, hb⟩; obtain ⟨hc, hf⟩ := bcell hb; obtain ⟨hz0, hz1, hz2⟩ : w.heap.size < w4.heap.size ∧ w.heap.size + 1 < w4.heap.size ∧ w.heap.size + 1 + 1 < w4.heap.size := (by have := hb.size; (try simp at this); omega); have HBn : Hid (Below w.heap.size w w4) := (by first | exact HB.out.trans (hb.mono HB.out.size) | exact (HB.out.trans ((below1 _ _).mono HB.out.size)).trans (hb.mono (by have := HB.out.size; (try simp); omega)) | exact (below3 _ _ _ _).trans (hb.mono (by simp; omega)) | fail); have HB := Lib.hid HBn.out; clear HBn hb))
          | fail)
        refine bodyPost_ret (v := .tuple #[.agg #[.int .i64 0, .int .i64 0, .int .i64 0, .int .i64 0], .int .i64 7]) ?_ rfl ⟨rfl, ?_⟩
        · simp [results, Try.results29, go_sem, *]
        · exact below_set4 HB.out (by omega) _ _ _ _
      | true =>
        rw [mulE_ok hx' hy' hm2] at hm
        cases hm
        have HG := Lib.hid (fun W => areEntries_any (a * a' + b * c') (a * b' + b * d') (c * a' + d * c') (c * b' + d * d') W)
        rw [show fitB (a * a' + b * c') (a * b' + b * d') (c * a' + d * c') (c * b' + d * d') = true from hm2] at HG
        clear hx hy hx' hy' hm2
        dsimp only [M.mul]
        generalize a * a' + b * c' = p at *
        generalize a * b' + b * d' = q at *
        generalize c * a' + d * c' = r at *
        generalize c * b' + d * d' = s at *
        go_enter Try.func29, Try.ntmps29
        go_wp2_with (first
          | (go_at_call 44; ((with_reducible refine (HE.out _).mono ?_); rintro e w1 ⟨rfl, hb⟩; obtain ⟨hc, hf⟩ := bcell hb; obtain ⟨hz0, hz1, hz2⟩ : w.heap.size < w1.heap.size ∧ w.heap.size + 1 < w1.heap.size ∧ w.heap.size + 1 + 1 < w1.heap.size := (by have := hb.size; (try simp at this); omega); have HBn : Hid (Below w.heap.size w w1) := (by first | exact HB.out.trans (hb.mono HB.out.size) | exact (HB.out.trans ((below1 _ _).mono HB.out.size)).trans (hb.mono (by have := HB.out.size; (try simp); omega)) | exact (below3 _ _ _ _).trans (hb.mono (by simp; omega)) | fail); have HB := Lib.hid HBn.out; clear HBn hb))
          | (go_at_call 44; ((with_reducible refine (HF.out _).mono ?_); rintro e w2 ⟨rfl, hb⟩; obtain ⟨hc, hf⟩ := bcell hb; obtain ⟨hz0, hz1, hz2⟩ : w.heap.size < w2.heap.size ∧ w.heap.size + 1 < w2.heap.size ∧ w.heap.size + 1 + 1 < w2.heap.size := (by have := hb.size; (try simp at this); omega); have HBn : Hid (Below w.heap.size w w2) := (by first | exact HB.out.trans (hb.mono HB.out.size) | exact (HB.out.trans ((below1 _ _).mono HB.out.size)).trans (hb.mono (by have := HB.out.size; (try simp); omega)) | exact (below3 _ _ _ _).trans (hb.mono (by simp; omega)) | fail); have HB := Lib.hid HBn.out; clear HBn hb))
          | (go_at_call 45; ((with_reducible refine (HP.out _).mono ?_); rintro e w3 ⟨rfl, hb⟩; obtain ⟨hc, hf⟩ := bcell hb; obtain ⟨hz0, hz1, hz2⟩ : w.heap.size < w3.heap.size ∧ w.heap.size + 1 < w3.heap.size ∧ w.heap.size + 1 + 1 < w3.heap.size := (by have := hb.size; (try simp at this); omega); have HBn : Hid (Below w.heap.size w w3) := (by first | exact HB.out.trans (hb.mono HB.out.size) | exact (HB.out.trans ((below1 _ _).mono HB.out.size)).trans (hb.mono (by have := HB.out.size; (try simp); omega)) | exact (below3 _ _ _ _).trans (hb.mono (by simp; omega)) | fail); have HB := Lib.hid HBn.out; clear HBn hb))
          | (go_at_call 44; ((with_reducible refine (HG.out _).mono ?_); rintro e w4 ⟨rfl, hb⟩; obtain ⟨hc, hf⟩ := bcell hb; obtain ⟨hz0, hz1, hz2⟩ : w.heap.size < w4.heap.size ∧ w.heap.size + 1 < w4.heap.size ∧ w.heap.size + 1 + 1 < w4.heap.size := (by have := hb.size; (try simp at this); omega); have HBn : Hid (Below w.heap.size w w4) := (by first | exact HB.out.trans (hb.mono HB.out.size) | exact (HB.out.trans ((below1 _ _).mono HB.out.size)).trans (hb.mono (by have := HB.out.size; (try simp); omega)) | exact (below3 _ _ _ _).trans (hb.mono (by simp; omega)) | fail); have HB := Lib.hid HBn.out; clear HBn hb))
          | fail)
        refine bodyPost_ret (v := .tuple #[.agg #[.int .i64 p, .int .i64 q, .int .i64 r, .int .i64 s], .int .i64 0]) ?_ rfl ⟨rfl, ?_⟩
        · simp [results, Try.results29, go_sem, *]
        · exact below_set4 HB.out (by omega) _ _ _ _
set_option maxHeartbeats 1600000 in
theorem inverse_any (a b c d p q r s k : Int) (w : World) (hm : invE ⟨a, b, c, d⟩ = (⟨p, q, r, s⟩, k)) :
    Calls Try.prog 27 #[.agg #[.int .i64 a, .int .i64 b, .int .i64 c, .int .i64 d]] w fun e w' =>
      e = .returned (.tuple #[.agg #[.int .i64 p, .int .i64 q, .int .i64 r, .int .i64 s], .int .i64 k]) ∧ Below w.heap.size w w' := by
  have HE := Lib.hid (fun W => check_any a b c d W)
  unfold invE at hm
  dsimp only at hm
  rcases chk_cases a b c d with ⟨h, k⟩ | ⟨h, h1, k⟩ | ⟨h, h1, k⟩
  all_goals rw [k] at hm HE
  · rw [if_neg (by omega)] at hm
    cases hm
    clear h k
    go_enter Try.func27, Try.ntmps27
    go_wp2_with (first
      | (go_at_call 43; ((with_reducible refine (HE.out _).mono ?_); rintro e w1 ⟨rfl, hb⟩; obtain ⟨hc, hf⟩ := bcell hb; obtain ⟨hz0, hz1⟩ : w.heap.size < w1.heap.size ∧ w.heap.size + 1 < w1.heap.size := (by have := hb.size; (try simp at this); omega); have HBn : Hid (Below w.heap.size w w1) := (by first | exact HB.out.trans (hb.mono HB.out.size) | exact (HB.out.trans ((below1 _ _).mono HB.out.size)).trans (hb.mono (by have := HB.out.size; (try simp); omega)) | exact (below2 _ _ _).trans (hb.mono (by simp; omega)) | fail); have HB := Lib.hid HBn.out; clear HBn hb))
      | fail)
    refine bodyPost_ret (v := .tuple #[.agg #[.int .i64 0, .int .i64 0, .int .i64 0, .int .i64 0], .int .i64 2]) ?_ rfl ⟨rfl, ?_⟩
    · simp [results, Try.results27, go_sem, *]
    · exact below_set4 HB.out (by omega) _ _ _ _
  · rw [if_pos rfl] at hm
    cases hm
    obtain ⟨⟨a1, a2⟩, ⟨b1, b2⟩, ⟨c1, c2⟩, d1, d2⟩ := fitB_iff.1 h
    clear h h1 k
    go_enter Try.func27, Try.ntmps27
    go_wp2_with (first
      | (go_at_call 43; ((with_reducible refine (HE.out _).mono ?_); rintro e w1 ⟨rfl, hb⟩; obtain ⟨hc, hf⟩ := bcell hb; obtain ⟨hz0, hz1⟩ : w.heap.size < w1.heap.size ∧ w.heap.size + 1 < w1.heap.size := (by have := hb.size; (try simp at this); omega); have HBn : Hid (Below w.heap.size w w1) := (by first | exact HB.out.trans (hb.mono HB.out.size) | exact (HB.out.trans ((below1 _ _).mono HB.out.size)).trans (hb.mono (by have := HB.out.size; (try simp); omega)) | exact (below2 _ _ _).trans (hb.mono (by simp; omega)) | fail); have HB := Lib.hid HBn.out; clear HBn hb))
      | fail)
    refine bodyPost_ret (v := .tuple #[.agg #[.int .i64 d, .int .i64 (-b), .int .i64 (-c), .int .i64 a], .int .i64 0]) ?_ rfl ⟨rfl, ?_⟩
    · simp [results, Try.results27, go_sem, *]
    · exact below_set4 HB.out (by omega) _ _ _ _
  · rw [if_neg (by omega)] at hm
    cases hm
    clear h k
    go_enter Try.func27, Try.ntmps27
    go_wp2_with (first
      | (go_at_call 43; ((with_reducible refine (HE.out _).mono ?_); rintro e w1 ⟨rfl, hb⟩; obtain ⟨hc, hf⟩ := bcell hb; obtain ⟨hz0, hz1⟩ : w.heap.size < w1.heap.size ∧ w.heap.size + 1 < w1.heap.size := (by have := hb.size; (try simp at this); omega); have HBn : Hid (Below w.heap.size w w1) := (by first | exact HB.out.trans (hb.mono HB.out.size) | exact (HB.out.trans ((below1 _ _).mono HB.out.size)).trans (hb.mono (by have := HB.out.size; (try simp); omega)) | exact (below2 _ _ _).trans (hb.mono (by simp; omega)) | fail); have HB := Lib.hid HBn.out; clear HBn hb))
      | fail)
    refine bodyPost_ret (v := .tuple #[.agg #[.int .i64 0, .int .i64 0, .int .i64 0, .int .i64 0], .int .i64 12]) ?_ rfl ⟨rfl, ?_⟩
    · simp [results, Try.results27, go_sem, *]
    · exact below_set4 HB.out (by omega) _ _ _ _
end Go.Proofs.Ytdgfdbifeopiaaa
