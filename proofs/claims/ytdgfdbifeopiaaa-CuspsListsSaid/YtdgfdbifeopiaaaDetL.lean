/- Contracts of Det, Check, product and of the reference's Det, Check, Times, Back, Minus. -/
import Derived.Test.YtdgfdbifeopiaaaEntL
namespace Go.Proofs.Ytdgfdbifeopiaaa
open Go.RowKit

/-- The answer of Check. -/
def chkI (a b c d : Int) : Int := if fitB a b c d = false then 2 else if a * d - b * c = 1 then 0 else 12
theorem chk_cases (a b c d : Int) : (fitB a b c d = false ∧ chkI a b c d = 2) ∨ (fitB a b c d = true ∧ a * d - b * c = 1 ∧ chkI a b c d = 0) ∨ (fitB a b c d = true ∧ a * d - b * c ≠ 1 ∧ chkI a b c d = 12) := by
  unfold chkI
  cases h : fitB a b c d with
  | false => exact .inl ⟨rfl, if_pos rfl⟩
  | true =>
    right
    rw [if_neg (by simp)]
    by_cases k : a * d - b * c = 1
    · exact .inl ⟨rfl, k, if_pos k⟩
    · exact .inr ⟨rfl, k, if_neg k⟩

set_option maxHeartbeats 800000 in
theorem det_no (a b c d : Int) (w : World) (h : fitB a b c d = false) : Calls Try.prog 58 #[.agg #[.int .i64 a, .int .i64 b, .int .i64 c, .int .i64 d]] w fun e w' => e = .returned (.tuple #[.int .i64 0, .int .i64 2]) ∧ Below w.heap.size w w' := by
  have HE := Lib.hid (fun W => areEntries_any a b c d W)
  rw [h] at HE
  clear h
  go_enter Try.func58, Try.ntmps58
  go_wp2_with (go_at_call 44; ((with_reducible refine (HE.out _).mono ?_); rintro e w' ⟨rfl, hb⟩; have HB := Lib.hid hb; clear hb))
  go_ret2
  exact ⟨rfl, ((Below.refl _ _).alloc (Nat.le_refl _) _).trans (HB.out.mono (by simp))⟩
set_option maxHeartbeats 800000 in
theorem det_yes (a b c d : Int) (w : World) (h : fitB a b c d = true) : Calls Try.prog 58 #[.agg #[.int .i64 a, .int .i64 b, .int .i64 c, .int .i64 d]] w fun e w' => e = .returned (.tuple #[.int .i64 (a * d - b * c), .int .i64 0]) ∧ Below w.heap.size w w' := by
  have HE := Lib.hid (fun W => areEntries_any a b c d W)
  rw [h] at HE
  obtain ⟨⟨a1, a2⟩, ⟨b1, b2⟩, ⟨c1, c2⟩, d1, d2⟩ := fitB_iff.1 h
  clear h
  obtain ⟨p1, p2⟩ := prod_le a1 a2 d1 d2
  obtain ⟨q1, q2⟩ := prod_le b1 b2 c1 c2
  go_enter Try.func58, Try.ntmps58
  go_wp2_with (go_at_call 44; ((with_reducible refine (HE.out _).mono ?_); rintro e w' ⟨rfl, hb⟩; obtain ⟨hc, hf⟩ := bcell hb; have HB := Lib.hid hb; clear hb))
  go_ret2
  exact ⟨rfl, ((Below.refl _ _).alloc (Nat.le_refl _) _).trans (HB.out.mono (by simp))⟩

/-- The answer of Det. -/
def detE (a b c d : Int) : Int × Int := if fitB a b c d = false then (0, 2) else (a * d - b * c, 0)
theorem detE_no {a b c d : Int} (h : fitB a b c d = false) : detE a b c d = (0, 2) := if_pos h
theorem detE_yes {a b c d : Int} (h : fitB a b c d = true) : detE a b c d = (a * d - b * c, 0) := if_neg (by rw [h]; simp)
theorem det_any (a b c d z k : Int) (w : World) (hz : detE a b c d = (z, k)) : Calls Try.prog 58 #[.agg #[.int .i64 a, .int .i64 b, .int .i64 c, .int .i64 d]] w fun e w' => e = .returned (.tuple #[.int .i64 z, .int .i64 k]) ∧ Below w.heap.size w w' := by
  cases h : fitB a b c d with
  | false =>
    rw [detE_no h] at hz
    cases hz
    exact det_no a b c d w h
  | true =>
    rw [detE_yes h] at hz
    cases hz
    exact det_yes a b c d w h
set_option maxHeartbeats 800000 in
theorem check_any (a b c d : Int) (w : World) : Calls Try.prog 43 #[.agg #[.int .i64 a, .int .i64 b, .int .i64 c, .int .i64 d]] w fun e w' => e = .returned (.int .i64 (chkI a b c d)) ∧ Below w.heap.size w w' := by
  rcases chk_cases a b c d with ⟨h, k⟩ | ⟨h, h1, k⟩ | ⟨h, h1, k⟩
  · have HE := Lib.hid (fun W => det_no a b c d W h)
    rw [k]
    clear h k
    go_enter Try.func43, Try.ntmps43
    go_wp2_with (go_at_call 58; ((with_reducible refine (HE.out _).mono ?_); rintro e w' ⟨rfl, hb⟩; have HB := Lib.hid hb; clear hb))
    go_ret
    exact ⟨rfl, ((Below.refl _ _).alloc (Nat.le_refl _) _).trans (HB.out.mono (by simp))⟩
  · have HE := Lib.hid (fun W => det_yes a b c d W h)
    rw [h1] at HE
    rw [k]
    clear h k h1
    go_enter Try.func43, Try.ntmps43
    go_wp2_with (go_at_call 58; ((with_reducible refine (HE.out _).mono ?_); rintro e w' ⟨rfl, hb⟩; have HB := Lib.hid hb; clear hb))
    go_ret
    exact ⟨rfl, ((Below.refl _ _).alloc (Nat.le_refl _) _).trans (HB.out.mono (by simp))⟩
  · have HE := Lib.hid (fun W => det_yes a b c d W h)
    rw [k]
    generalize a * d - b * c = z at *
    have hz : (z != 1) = true := by simpa using h1
    clear h k h1
    go_enter Try.func43, Try.ntmps43
    go_wp2_with (go_at_call 58; ((with_reducible refine (HE.out _).mono ?_); rintro e w' ⟨rfl, hb⟩; have HB := Lib.hid hb; clear hb))
    go_ret
    exact ⟨rfl, ((Below.refl _ _).alloc (Nat.le_refl _) _).trans (HB.out.mono (by simp))⟩

set_option maxHeartbeats 1600000 in
theorem product_yes (a b c d a' b' c' d' : Int) (w : World) (h : fitB a b c d = true) (k : fitB a' b' c' d' = true) :
    Calls Try.prog 45 #[.agg #[.int .i64 a, .int .i64 b, .int .i64 c, .int .i64 d], .agg #[.int .i64 a', .int .i64 b', .int .i64 c', .int .i64 d']] w fun e w' =>
      e = .returned (.agg #[.int .i64 (a * a' + b * c'), .int .i64 (a * b' + b * d'), .int .i64 (c * a' + d * c'), .int .i64 (c * b' + d * d')]) ∧ Below w.heap.size w w' := by
  obtain ⟨⟨a1, a2⟩, ⟨b1, b2⟩, ⟨c1, c2⟩, d1, d2⟩ := fitB_iff.1 h
  obtain ⟨⟨x1, x2⟩, ⟨y1, y2⟩, ⟨z1, z2⟩, t1, t2⟩ := fitB_iff.1 k
  clear h k
  obtain ⟨p1, p2⟩ := prod_le a1 a2 x1 x2
  obtain ⟨p3, p4⟩ := prod_le b1 b2 z1 z2
  obtain ⟨p5, p6⟩ := prod_le a1 a2 y1 y2
  obtain ⟨p7, p8⟩ := prod_le b1 b2 t1 t2
  obtain ⟨q1, q2⟩ := prod_le c1 c2 x1 x2
  obtain ⟨q3, q4⟩ := prod_le d1 d2 z1 z2
  obtain ⟨q5, q6⟩ := prod_le c1 c2 y1 y2
  obtain ⟨q7, q8⟩ := prod_le d1 d2 t1 t2
  go_enter Try.func45, Try.ntmps45
  go_wp2
  refine bodyPost_ret (v := .agg #[.int .i64 (a * a' + b * c'), .int .i64 (a * b' + b * d'), .int .i64 (c * a' + d * c'), .int .i64 (c * b' + d * d')]) ?_ rfl ⟨rfl, ?_⟩
  · simp [results, Try.results45, go_sem]
  exact below3 _ _ _ _
end Go.Proofs.Ytdgfdbifeopiaaa
