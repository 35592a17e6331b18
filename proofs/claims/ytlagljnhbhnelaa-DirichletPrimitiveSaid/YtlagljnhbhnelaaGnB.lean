/- primitiveRoot: the least primitive root of a power of an odd prime up to 60. -/
import Derived.Test.YtlagljnhbhnelaaGnA
namespace Go.Proofs.Ytlagljnhbhnelaa
open Go.RowKit
set_option linter.unusedVariables false
set_option linter.unusedSimpArgs false

theorem orF_le (a m : Nat) : ∀ l x, orF a m l x ≤ x
  | [], x => Nat.le_refl x
  | q :: l, x => Nat.le_trans (orF_le a m l _) (orI_le a m q.1 q.2 x)
def rtGood (q a : Nat) : Bool := decide (Nat.gcd (a % q) q = 1) && decide (orV a q = phV q)
def rootF (q : Nat) : Nat → Nat → Nat
  | 0, a => a
  | f + 1, a => if rtGood q a = true then a else rootF q f (a + 1)
/-- The least primitive root. -/
def rootV (q : Nat) : Nat := rootF q 60 2
def rtOk (q : Nat) : Bool := decide (1 ≤ q) && decide (q ≤ 60) && decide (2 ≤ rootV q) && decide (rootV q ≤ 60) && rtGood q (rootV q) && (List.range (rootV q)).all fun a => decide (a < 2) || !rtGood q a
def oddPP : List Nat := [3, 5, 7, 9, 11, 13, 17, 19, 23, 25, 27, 29, 31, 37, 41, 43, 47, 49, 53, 59]
set_option maxRecDepth 100000 in
theorem opp_all : oddPP.all rtOk = true := by decide +kernel
structure RtF (q : Nat) : Prop where
  q1 : 1 ≤ q
  q2 : q ≤ 60
  r1 : 2 ≤ rootV q
  r2 : rootV q ≤ 60
  g : rtGood q (rootV q) = true
  n : ∀ a, 2 ≤ a → a < rootV q → rtGood q a = false
theorem rt_of {q : Nat} (h : q ∈ oddPP) : RtF q := by
  have h := List.all_eq_true.1 opp_all q h
  unfold rtOk at h
  simp only [Bool.and_eq_true, decide_eq_true_eq, List.all_eq_true, List.mem_range, Bool.or_eq_true, Bool.not_eq_true'] at h
  obtain ⟨⟨⟨⟨⟨a, b⟩, c⟩, d⟩, e⟩, f⟩ := h
  exact ⟨a, b, c, d, e, fun x h1 h2 => (f x h2).resolve_left (by omega)⟩
set_option maxHeartbeats 3200000 in
set_option maxRecDepth 1000000 in
theorem prim_any (q : Nat) (w : World) (h : RtF q) :
    Calls Try.prog 70 #[.int .i64 (q : Int)] w fun e w' => e = .returned (.tuple #[.int .i64 (rootV q : Nat), .int .i64 (phV q : Nat)]) ∧ Below w.heap.size w w' := by
  have q1 := h.q1
  have q2 : (q : Int) ≤ 120 := by have := h.q2; omega
  have r1 := h.r1
  have r2 := h.r2
  have HPh := Lib.hid (fun V => phi_any q V q1 q2)
  have hph := phV_le q
  have HG := Lib.hid h.g
  have HN := Lib.hid h.n
  have HY := Lib.hid (fun (a : Nat) V (hc : Nat.gcd (a % q) q = 1) => order_yes a q V q1 q2 hc)
  have HO := Lib.hid (fun (a : Nat) V (hc : Nat.gcd (a % q) q ≠ 1) => order_no a q V q1 q2 hc)
  have HD : Hid (∀ a, rtGood q a = (decide (Nat.gcd (a % q) q = 1) && decide (orV a q = phV q))) := fun a => rfl
  have HOr : Hid (∀ a, orV a q ≤ 120) := fun a => by
    show orF (a % q) q (facs 2 (phV q)) (phV q) ≤ 120
    exact Nat.le_trans (orF_le _ _ _ _) (by omega)
  clear h
  generalize rootV q = r at *
  generalize phV q = ph at *
  go_enter Try.func70, Try.ntmps70
  go_wp2_with (first
    | (go_at_call 81; ((with_reducible refine (HPh.out _).mono ?_); rintro e v1 ⟨rfl, hb⟩; have HB1 := Lib.hid hb; clear hb))
    | fail)
  go_loopw [6, 7, 8] (fun X _ _ wr => ∃ a : Nat, X = .int .i64 (a : Int) ∧ 2 ≤ a ∧ a ≤ r ∧ Hid (Below v1.heap.size v1 wr)) (fun X _ _ _ => 100 - (intOf X).toNat)
  case atStart => exact ⟨2, rfl, Nat.le_refl _, r1, Below.refl _ _⟩
  case round =>
    obtain ⟨a, rfl, ha1, ha2, HW⟩ := hrel
    have hai : (a : Int) ≤ 60 := by omega
    by_cases hc : Nat.gcd (a % q) q = 1
    · have HYa := Lib.hid (fun V => HY.out a V hc)
      have hda := HD.out a
      have hoa := HOr.out a
      by_cases ho : orV a q = ph
      · have har : a = r := by
          rcases Nat.lt_or_ge a r with h1 | h1
          · have := HN.out a ha1 h1
            rw [hda, decide_eq_true hc, decide_eq_true ho] at this; cases this
          · omega
        subst har
        rw [ho] at HYa
        clear hda hoa hc ho
        go_wp2_with (first
          | (go_at_call 82; ((with_reducible refine (HYa.out _).mono ?_); rintro e v2 ⟨rfl, hb⟩; have HB2 := Lib.hid (bel0 HW.out hb); clear hb))
          | fail)
        refine bodyPost_ret (v := .tuple #[.int .i64 (a : Int), .int .i64 (ph : Int)]) ?_ rfl ⟨rfl, HB1.out.trans (HB2.out.mono HB1.out.size)⟩
        simp [results, Try.results70, go_sem, *]
      · have har : a < r := by
          rcases Nat.lt_or_ge a r with h1 | h1
          · exact h1
          · obtain rfl : a = r := by omega
            have := HG.out
            rw [hda, decide_eq_false ho, Bool.and_false] at this; cases this
        have hne : (((orV a q : Nat) : Int) == (ph : Int)) = false := by rw [beq_eq_false_iff_ne]; omega
        clear hda hc ho
        generalize orV a q = o at *
        go_wp2_with (first
          | (go_at_call 82; ((with_reducible refine (HYa.out _).mono ?_); rintro e v2 ⟨rfl, hb⟩; have HB2 := Lib.hid (bel0 HW.out hb); clear hb))
          | fail)
        go_roundw
        case rel => exact ⟨a + 1, by go_num, by omega, har, HB2.out⟩
        case measure => simp [intOf]; omega
    · have HOa := Lib.hid (fun V => HO.out a V hc)
      have har : a < r := by
        rcases Nat.lt_or_ge a r with h1 | h1
        · exact h1
        · obtain rfl : a = r := by omega
          have := HG.out
          rw [HD.out a, decide_eq_false hc, Bool.false_and] at this; cases this
      clear hc
      go_wp2_with (first
        | (go_at_call 82; ((with_reducible refine (HOa.out _).mono ?_); rintro e v2 ⟨rfl, hb⟩; have HB2 := Lib.hid (bel0 HW.out hb); clear hb))
        | fail)
      go_roundw
      case rel => exact ⟨a + 1, by go_num, by omega, har, HB2.out⟩
      case measure => simp [intOf]; omega
end Go.Proofs.Ytlagljnhbhnelaa
