/- The checks of a level and of two cusps, of the code and of the reference. -/
import Derived.Test.YtfojlanjhdifoaaEq4L
namespace Go.Proofs.Ytfojlanjhdifoaa
open Go.RowKit

def ck1 (p q : Int) : Int := if cuspI p q = 0 then (if p < -1000 ∨ 1000 < p ∨ 1000 < q then 2 else 0) else cuspI p q
def ckI (n p q p' q' : Int) : Int := if lvI n = 0 then (if ck1 p q = 0 then ck1 p' q' else ck1 p q) else lvI n
theorem ck1_cases (p q : Int) : (¬ cuspI p q = 0 ∧ ck1 p q = cuspI p q) ∨ (cuspI p q = 0 ∧ p < -1000 ∧ ck1 p q = 2) ∨ (cuspI p q = 0 ∧ -1000 ≤ p ∧ 1000 < p ∧ ck1 p q = 2) ∨
    (cuspI p q = 0 ∧ -1000 ≤ p ∧ p ≤ 1000 ∧ 1000 < q ∧ ck1 p q = 2) ∨ (cuspI p q = 0 ∧ -1000 ≤ p ∧ p ≤ 1000 ∧ q ≤ 1000 ∧ ck1 p q = 0) := by
  unfold ck1
  by_cases h : cuspI p q = 0
  · rw [if_pos h]
    by_cases h1 : p < -1000
    · exact .inr (.inl ⟨h, h1, if_pos (.inl h1)⟩)
    · by_cases h2 : 1000 < p
      · exact .inr (.inr (.inl ⟨h, by omega, h2, if_pos (.inr (.inl h2))⟩))
      · by_cases h3 : 1000 < q
        · exact .inr (.inr (.inr (.inl ⟨h, by omega, by omega, h3, if_pos (.inr (.inr h3))⟩)))
        · exact .inr (.inr (.inr (.inr ⟨h, by omega, by omega, by omega, if_neg (by omega)⟩)))
  · rw [if_neg h]; exact .inl ⟨h, rfl⟩
set_option maxHeartbeats 1600000 in
set_option maxRecDepth 1000000 in
theorem rck_any (p q : Int) (w : World) : Calls Try.prog 18 #[.agg #[.int .i64 p, .int .i64 q]] w fun e w' => e = .returned (.int .i64 (ck1 p q)) ∧ Below w.heap.size w w' := by
  have HC := Lib.hid (fun W => rcheckCusp_any p q W)
  rcases ck1_cases p q with ⟨h, e⟩ | ⟨h, h1, e⟩ | ⟨h, h1, h2, e⟩ | ⟨h, h1, h2, h3, e⟩ | ⟨h, h1, h2, h3, e⟩
  all_goals rw [e]
  all_goals clear e
  all_goals (try rw [h] at HC)
  all_goals (try generalize cuspI p q = z at *)
  all_goals
    go_enter Try.func18, Try.ntmps18
    go_wp2_with (first
      | (go_at_call 34; ((with_reducible refine (HC.out _).mono ?_); rintro e w1 ⟨rfl, hb⟩; have T : Hid (Two w1 w.heap.size p q) := (Two.at w rfl p q).below hb; have HB : Hid (Below w.heap.size w w1) := (below1 w _).trans (hb.mono (by simp)); have hc := T.out.cells; obtain ⟨c1, c2⟩ := hc; clear hb))
      | fail)
    go_ret
    exact ⟨rfl, HB.out⟩
set_option maxHeartbeats 3200000 in
set_option maxRecDepth 1000000 in
theorem check2_any {A : Option Addr} {B : Nat} (n p q p' q' : Int) (w : World) (h : RdC w B A 2 [(p, q), (p', q')]) (hB : B ≤ w.heap.size) : Calls Try.prog 15 #[.int .i64 n, .slice A 2 2] w fun e w' => e = .returned (.int .i64 (ckI n p q p' q')) ∧ Below w.heap.size w w' := by
  have HC := Lib.hid (fun W => checkCusp_any p q W)
  have HD := Lib.hid (fun W => checkCusp_any p' q' W)
  obtain ⟨b, o, rfl, hb, x0, x1⟩ := h.at_ (k := 0) (by simp)
  obtain ⟨b', o', e', _, x2, x3⟩ := h.at_ (k := 1) (by simp)
  cases e'
  have hbw : b < w.heap.size := by omega
  simp at x0 x1 x2 x3
  clear h
  by_cases hn : n < 1
  · rw [show ckI n p q p' q' = 2 from by unfold ckI; rw [lv_no (.inl hn), if_neg (by decide)]]
    go_enter Try.func15, Try.ntmps15
    go_wp2
    go_ret
    exact ⟨rfl, Below.refl _ _⟩
  by_cases hn2 : 120 < n
  · rw [show ckI n p q p' q' = 2 from by unfold ckI; rw [lv_no (.inr hn2), if_neg (by decide)]]
    go_enter Try.func15, Try.ntmps15
    go_wp2
    go_ret
    exact ⟨rfl, Below.refl _ _⟩
  have hlv := lv_yes (n := n) (by omega) (by omega)
  rcases ck1_cases p q with ⟨h, e⟩ | ⟨h, h1, e⟩ | ⟨h, h1, h2, e⟩ | ⟨h, h1, h2, h3, e⟩ | ⟨h, h1, h2, h3, e⟩
  case inr.inr.inr.inr =>
    rw [show ckI n p q p' q' = ck1 p' q' from by unfold ckI; rw [hlv, if_pos rfl, e, if_pos rfl]]
    clear e
    rw [h] at HC
    clear h
    rcases ck1_cases p' q' with ⟨h, e⟩ | ⟨h, h4, e⟩ | ⟨h, h4, h5, e⟩ | ⟨h, h4, h5, h6, e⟩ | ⟨h, h4, h5, h6, e⟩
    all_goals rw [e]
    all_goals clear e
    all_goals (try rw [h] at HD)
    all_goals (try generalize cuspI p' q' = z at *)
    all_goals
      go_enter Try.func15, Try.ntmps15
      go_wp2
      refine wp_loop_rounds 3 ?_
      rw [rounds_succ]
      go_wp2_with (first
        | (go_at_call 29; ((with_reducible refine (HC.out _).mono ?_); rintro e w1 ⟨rfl, hb1⟩; obtain ⟨hc, hf⟩ := bcell hb1; have hz1 : w.heap.size < w1.heap.size := (by have := hb1.size; simp at this; omega); have HB1 := Lib.hid ((below1 w _).trans (hb1.mono (by simp))); have hbw1 : b < w1.heap.size := (by omega); clear hb1))
        | fail)
      rw [rounds_succ]
      go_wp2_with (first
        | (go_at_call 29; ((with_reducible refine (HD.out _).mono ?_); rintro e w2 ⟨rfl, hb2⟩; obtain ⟨hc2, hf2⟩ := bcell hb2; have hz2 : w1.heap.size < w2.heap.size := (by have := hb2.size; simp at this; omega); have HB2 : Hid (Below w.heap.size w w2) := bel1 HB1.out hb2; clear hb2))
        | fail)
    all_goals first
      | (go_ret; exact ⟨rfl, HB2.out⟩)
      | (rw [rounds_succ]; go_wp2; go_ret; exact ⟨rfl, HB2.out⟩)
  all_goals rw [show ckI n p q p' q' = ck1 p q from by unfold ckI; rw [hlv, if_pos rfl]; exact if_neg (by rw [e]; first | exact h | decide), e]
  all_goals clear e
  all_goals (try rw [h] at HC)
  all_goals (try generalize cuspI p q = z at *)
  all_goals
    go_enter Try.func15, Try.ntmps15
    go_wp2
    refine wp_loop_rounds 1 ?_
    rw [rounds_succ]
    go_wp2_with (first
      | (go_at_call 29; ((with_reducible refine (HC.out _).mono ?_); rintro e w1 ⟨rfl, hb1⟩; obtain ⟨hc, hf⟩ := bcell hb1; have hz1 : w.heap.size < w1.heap.size := (by have := hb1.size; simp at this; omega); have HB1 := Lib.hid ((below1 w _).trans (hb1.mono (by simp))); have hbw1 : b < w1.heap.size := (by omega); clear hb1))
      | fail)
    go_ret
    exact ⟨rfl, HB1.out⟩
end Go.Proofs.Ytfojlanjhdifoaa
