/- The contracts of the reference that DetL lacks in this seat. -/
import Derived.Test.YtjofmgnggeoimaaDetL
namespace Go.Proofs.Ytjofmgnggeoimaa
open Go.RowKit
set_option linter.unusedVariables false

set_option maxHeartbeats 800000 in
theorem rdet_no (a b c d : Int) (w : World) (h : fitB a b c d = false) : Calls Try.prog 75 #[.agg #[.int .i64 a, .int .i64 b, .int .i64 c, .int .i64 d]] w fun e w' => e = .returned (.tuple #[.int .i64 0, .int .i64 2]) ∧ Below w.heap.size w w' := by
  have HE := Lib.hid (fun W => rFits_any a b c d W)
  rw [h] at HE
  clear h
  go_enter Try.func75, Try.ntmps75
  go_wp2_with (go_at_call 76; ((with_reducible refine (HE.out _).mono ?_); rintro e w' ⟨rfl, hb⟩; have HB := Lib.hid hb; clear hb))
  go_ret2
  exact ⟨rfl, ((Below.refl _ _).alloc (Nat.le_refl _) _).trans (HB.out.mono (by simp))⟩
set_option maxHeartbeats 800000 in
theorem rdet_yes (a b c d : Int) (w : World) (h : fitB a b c d = true) : Calls Try.prog 75 #[.agg #[.int .i64 a, .int .i64 b, .int .i64 c, .int .i64 d]] w fun e w' => e = .returned (.tuple #[.int .i64 (a * d - b * c), .int .i64 0]) ∧ Below w.heap.size w w' := by
  have HE := Lib.hid (fun W => rFits_any a b c d W)
  rw [h] at HE
  obtain ⟨⟨a1, a2⟩, ⟨b1, b2⟩, ⟨c1, c2⟩, d1, d2⟩ := fitB_iff.1 h
  clear h
  obtain ⟨p1, p2⟩ := prod_le a1 a2 d1 d2
  obtain ⟨q1, q2⟩ := prod_le b1 b2 c1 c2
  go_enter Try.func75, Try.ntmps75
  go_wp2_with (go_at_call 76; ((with_reducible refine (HE.out _).mono ?_); rintro e w' ⟨rfl, hb⟩; obtain ⟨hc, hf⟩ := bcell hb; have HB := Lib.hid hb; clear hb))
  go_ret2
  exact ⟨rfl, ((Below.refl _ _).alloc (Nat.le_refl _) _).trans (HB.out.mono (by simp))⟩

theorem rdet_any (a b c d z k : Int) (w : World) (hz : detE a b c d = (z, k)) : Calls Try.prog 75 #[.agg #[.int .i64 a, .int .i64 b, .int .i64 c, .int .i64 d]] w fun e w' => e = .returned (.tuple #[.int .i64 z, .int .i64 k]) ∧ Below w.heap.size w w' := by
  cases h : fitB a b c d with
  | false =>
    rw [detE_no h] at hz
    cases hz
    exact rdet_no a b c d w h
  | true =>
    rw [detE_yes h] at hz
    cases hz
    exact rdet_yes a b c d w h
set_option maxHeartbeats 800000 in
theorem rcheck_any (a b c d : Int) (w : World) : Calls Try.prog 64 #[.agg #[.int .i64 a, .int .i64 b, .int .i64 c, .int .i64 d]] w fun e w' => e = .returned (.int .i64 (chkI a b c d)) ∧ Below w.heap.size w w' := by
  rcases chk_cases a b c d with ⟨h, k⟩ | ⟨h, h1, k⟩ | ⟨h, h1, k⟩
  · have HE := Lib.hid (fun W => rdet_no a b c d W h)
    rw [k]
    clear h k
    go_enter Try.func64, Try.ntmps64
    go_wp2_with (go_at_call 75; ((with_reducible refine (HE.out _).mono ?_); rintro e w' ⟨rfl, hb⟩; have HB := Lib.hid hb; clear hb))
    go_ret
    exact ⟨rfl, ((Below.refl _ _).alloc (Nat.le_refl _) _).trans (HB.out.mono (by simp))⟩
  · have HE := Lib.hid (fun W => rdet_yes a b c d W h)
    rw [h1] at HE
    rw [k]
    clear h k h1
    go_enter Try.func64, Try.ntmps64
    go_wp2_with (go_at_call 75; ((with_reducible refine (HE.out _).mono ?_); rintro e w' ⟨rfl, hb⟩; have HB := Lib.hid hb; clear hb))
    go_ret
    exact ⟨rfl, ((Below.refl _ _).alloc (Nat.le_refl _) _).trans (HB.out.mono (by simp))⟩
  · have HE := Lib.hid (fun W => rdet_yes a b c d W h)
    rw [k]
    generalize a * d - b * c = z at *
    have hz : (z != 1) = true := by simpa using h1
    clear h k h1
    go_enter Try.func64, Try.ntmps64
    go_wp2_with (go_at_call 75; ((with_reducible refine (HE.out _).mono ?_); rintro e w' ⟨rfl, hb⟩; have HB := Lib.hid hb; clear hb))
    go_ret
    exact ⟨rfl, ((Below.refl _ _).alloc (Nat.le_refl _) _).trans (HB.out.mono (by simp))⟩

set_option maxHeartbeats 1600000 in
theorem times_yes (a b c d a' b' c' d' : Int) (w : World) (h : fitB a b c d = true) (k : fitB a' b' c' d' = true) :
    Calls Try.prog 65 #[.agg #[.int .i64 a, .int .i64 b, .int .i64 c, .int .i64 d], .agg #[.int .i64 a', .int .i64 b', .int .i64 c', .int .i64 d']] w fun e w' =>
      e = .returned (.agg #[.int .i64 (a * a' + b * c'), .int .i64 (a * b' + b * d'), .int .i64 (c * a' + d * c'), .int .i64 (c * b' + d * d')]) ∧ Below w.heap.size w w' := by
  obtain ⟨⟨a1, a2⟩, ⟨b1, b2⟩, ⟨c1, c2⟩, d1, d2⟩ := fitB_iff.1 h
  obtain ⟨⟨x1, x2⟩, ⟨y1, y2⟩, ⟨z1, z2⟩, t1, t2⟩ := fitB_iff.1 k
  clear h k
  obtain ⟨p1, p2⟩ := prod_le a1 a2 x1 x2
  obtain ⟨p3, p4⟩ := prod_le b1 b2 z1 z2
  obtain ⟨p5, p6⟩ := prod_le a1 a2 y1 y2
  obtain ⟨p7, p8⟩ := prod_le b1 b2 t1 t2
  obtain ⟨q1, q2⟩ := prod_le c1 c2 x1 x2
  obtain ⟨q3, q4⟩ := prod_le d1 d2 z1 z2
  obtain ⟨q5, q6⟩ := prod_le c1 c2 y1 y2
  obtain ⟨q7, q8⟩ := prod_le d1 d2 t1 t2
  go_enter Try.func65, Try.ntmps65
  go_wp2
  refine bodyPost_ret (v := .agg #[.int .i64 (a * a' + b * c'), .int .i64 (a * b' + b * d'), .int .i64 (c * a' + d * c'), .int .i64 (c * b' + d * d')]) ?_ rfl ⟨rfl, ?_⟩
  · simp [results, Try.results65, go_sem]
  exact below3 _ _ _ _
set_option maxHeartbeats 800000 in
theorem back_any (a b c d : Int) (w : World) (h : fitB a b c d = true) :
    Calls Try.prog 66 #[.agg #[.int .i64 a, .int .i64 b, .int .i64 c, .int .i64 d]] w fun e w' =>
      e = .returned (.agg #[.int .i64 d, .int .i64 (-b), .int .i64 (-c), .int .i64 a]) ∧ Below w.heap.size w w' := by
  obtain ⟨⟨a1, a2⟩, ⟨b1, b2⟩, ⟨c1, c2⟩, d1, d2⟩ := fitB_iff.1 h
  clear h
  go_enter Try.func66, Try.ntmps66
  go_wp2
  refine bodyPost_ret (v := .agg #[.int .i64 d, .int .i64 (-b), .int .i64 (-c), .int .i64 a]) ?_ rfl ⟨rfl, ?_⟩
  · simp [results, Try.results66, go_sem]
  exact below2 _ _ _
end Go.Proofs.Ytjofmgnggeoimaa
