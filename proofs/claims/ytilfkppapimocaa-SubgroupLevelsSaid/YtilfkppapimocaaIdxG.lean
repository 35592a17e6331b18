/- The contracts of Index, checkIndex, Of and Representatives. -/
import Derived.Test.YtilfkppapimocaaSrL
import Derived.Test.YtilfkppapimocaaPsL
import Derived.Test.YtilfkppapimocaaGrpL
namespace Go.Proofs.Ytilfkppapimocaa
open Go.RowKit
set_option linter.unusedVariables false
set_option linter.unusedSimpArgs false

theorem phiL_le : ∀ (l : List (Nat × Nat)) (x : Nat), phiL l x ≤ x
  | [], x => Nat.le_refl _
  | f :: l, x => Nat.le_trans (phiL_le l _) (Nat.sub_le _ _)
def idxN (k : Int) (n : Nat) : Nat := if k = 2 then psiN n * phiN n else if k = 3 then psiN n * (phiN n * n) else psiN n
def idxI (k n : Int) : Int := if gckI k n = 0 then (idxN k n.toNat : Nat) else 0
def ckxI (k n : Int) : Int := if gckI k n = 0 then if 1152 < idxI k n then 7 else 0 else gckI k n
theorem psi_le {n : Nat} (h : PsF n) : psiN n ≤ 1000 := by
  have := h.bd _ (Nat.le_refl _)
  rw [List.take_length] at this
  exact this
theorem mul_le3 {a b c : Nat} (ha : a ≤ 1000) (hb : b ≤ 120) (hc : c ≤ 120) : a * b ≤ 120000 ∧ b * c ≤ 14400 ∧ a * (b * c) ≤ 14400000 :=
  ⟨Nat.mul_le_mul ha hb, Nat.mul_le_mul hb hc, Nat.mul_le_mul ha (Nat.mul_le_mul hb hc)⟩
set_option maxHeartbeats 3200000 in
set_option maxRecDepth 1000000 in
theorem index_any (k n : Int) (w : World) :
    Calls Try.prog 19 #[.agg #[.int .i64 k, .int .i64 n]] w fun e w' => e = .returned (.tuple #[.int .i64 (idxI k n), .int .i64 (gckI k n)]) ∧ Below w.heap.size w w' := by
  have HC := Lib.hid (fun W => gcheck_any k n W)
  by_cases hg : gckI k n = 0
  case neg =>
    rw [show idxI k n = 0 from if_neg hg]
    generalize gckI k n = z at *
    go_enter Try.func19, Try.ntmps19
    go_wp2_with (first
      | (go_at_call 15; ((with_reducible refine (HC.out _).mono ?_); rintro e w1 ⟨rfl, hb⟩; have HB1 : Hid (Below w.heap.size w w1) := bel1 (Below.refl _ _) hb; clear hb))
      | fail)
    refine bodyPost_ret (v := .tuple #[.int .i64 0, .int .i64 z]) ?_ rfl ⟨rfl, HB1.out⟩
    simp [results, Try.results19, go_sem, *]
  rw [show idxI k n = (idxN k n.toNat : Nat) from if_pos hg, hg]
  rw [hg] at HC
  obtain ⟨hkk, n1, n2⟩ : (1 ≤ k ∧ k ≤ 4) ∧ (1 ≤ n ∧ n ≤ 120) := by
    rcases gck_cases k n with ⟨_, e⟩ | ⟨_, _, e⟩ | ⟨h, h2, _⟩
    · rw [hg] at e; exact absurd e (by decide)
    · rw [hg] at e; exact absurd e (by decide)
    · exact ⟨h, h2⟩
  clear hg
  obtain ⟨m, rfl⟩ : ∃ m : Nat, n = m := ⟨n.toNat, by omega⟩
  rw [Int.toNat_natCast]
  have HP := Lib.hid (fun W => psi_any m W (by omega) n2)
  have HF := Lib.hid (fun W => phi_any m W (by omega) n2)
  have hs := psi_le (ps_of (n := m) (by omega) (by omega))
  have hf : phiN m ≤ 120 := Nat.le_trans (phiL_le _ _) (by omega)
  obtain ⟨p1, p2, p3⟩ := mul_le3 hs hf (show m ≤ 120 by omega)
  have hidx : ∀ s f, s = psiN m → f = phiN m → idxN k m = if k = 2 then s * f else if k = 3 then s * (f * m) else s := fun s f h1 h2 => by rw [h1, h2]; rfl
  obtain ⟨s, hs'⟩ : ∃ s, s = psiN m := ⟨_, rfl⟩
  obtain ⟨f, hf'⟩ : ∃ f, f = phiN m := ⟨_, rfl⟩
  rw [hidx s f hs' hf']
  rw [← hs'] at HP p1 p3 hs
  rw [← hf'] at HF p1 p2 p3 hf
  clear hs' hf' hidx
  have q1 : IntKind.i64.wrap ((s : Int) * (f : Int)) = (s : Int) * (f : Int) := by
    rw [← Int.natCast_mul]; exact IntWalk.i64_in _ (by omega)
  have q2 : IntKind.i64.wrap ((f : Int) * (m : Int)) = (f : Int) * (m : Int) := by
    rw [← Int.natCast_mul]; exact IntWalk.i64_in _ (by omega)
  have q3 : IntKind.i64.wrap ((s : Int) * ((f : Int) * (m : Int))) = (s : Int) * ((f : Int) * (m : Int)) := by
    rw [← Int.natCast_mul, ← Int.natCast_mul]; exact IntWalk.i64_in _ (by omega)
  clear p1 p2 p3
  rcases four_kinds hkk with rfl | rfl | rfl | rfl
  all_goals
    clear hkk
    simp only [reduceIte, Int.reduceEq]
    go_enter Try.func19, Try.ntmps19
    go_wp2_with (first
      | (go_at_call 15; ((with_reducible refine (HC.out _).mono ?_); rintro e w1 ⟨rfl, hb⟩; have T := Lib.hid (block_below (heap_alloc_new w _) hb); have HB1 : Hid (Below w.heap.size w w1) := bel1 (Below.refl _ _) hb; obtain ⟨⟨t1, t2⟩, _⟩ := two_of_block T.out; have hz := lt_of_block T.out; clear hb))
      | (go_at_call 40; ((with_reducible refine (HP.out _).mono ?_); rintro e w2 ⟨rfl, hb⟩; have T2 := Lib.hid (block_below T.out hb); have HB2 := Lib.hid (bel0 HB1.out hb); clear hb t1 t2 hz; obtain ⟨⟨t1, t2⟩, _⟩ := two_of_block T2.out; have hz := lt_of_block T2.out))
      | (go_at_call 41; ((with_reducible refine (HF.out _).mono ?_); rintro e w3 ⟨rfl, hb⟩; have T3 := Lib.hid (block_below T2.out hb); have HB3 := Lib.hid (bel0 HB2.out hb); clear hb t1 t2 hz; obtain ⟨⟨t1, t2⟩, _⟩ := two_of_block T3.out; have hz := lt_of_block T3.out))
      | fail)
    refine bodyPost_ret ?_ rfl ⟨rfl, HB3.out⟩
    simp [results, Try.results19, go_sem, *]
set_option maxHeartbeats 3200000 in
set_option maxRecDepth 1000000 in
theorem ckx_any (k n : Int) (w : World) :
    Calls Try.prog 42 #[.agg #[.int .i64 k, .int .i64 n]] w fun e w' => e = .returned (.int .i64 (ckxI k n)) ∧ Below w.heap.size w w' := by
  have HC := Lib.hid (fun W => index_any k n W)
  by_cases hg : gckI k n = 0
  case neg =>
    rw [show ckxI k n = gckI k n from if_neg hg]
    generalize gckI k n = z at *
    generalize idxI k n = x at *
    go_enter Try.func42, Try.ntmps42
    go_wp2_with (first
      | (go_at_call 19; ((with_reducible refine (HC.out _).mono ?_); rintro e w1 ⟨rfl, hb⟩; have HB1 : Hid (Below w.heap.size w w1) := bel1 (Below.refl _ _) hb; clear hb))
      | fail)
    go_ret
    exact ⟨rfl, HB1.out⟩
  rw [show ckxI k n = if 1152 < idxI k n then 7 else 0 from if_pos hg]
  rw [hg] at HC
  clear hg
  generalize idxI k n = x at *
  by_cases hx : 1152 < x
  · rw [if_pos hx]
    have d1 : decide (1152 < x) = true := by simpa using hx
    go_enter Try.func42, Try.ntmps42
    go_wp2_with (first
      | (go_at_call 19; ((with_reducible refine (HC.out _).mono ?_); rintro e w1 ⟨rfl, hb⟩; have HB1 : Hid (Below w.heap.size w w1) := bel1 (Below.refl _ _) hb; clear hb))
      | fail)
    go_ret
    exact ⟨rfl, HB1.out⟩
  · rw [if_neg hx]
    have d1 : decide (1152 < x) = false := by simpa using hx
    go_enter Try.func42, Try.ntmps42
    go_wp2_with (first
      | (go_at_call 19; ((with_reducible refine (HC.out _).mono ?_); rintro e w1 ⟨rfl, hb⟩; have HB1 : Hid (Below w.heap.size w w1) := bel1 (Below.refl _ _) hb; clear hb))
      | fail)
    go_ret
    exact ⟨rfl, HB1.out⟩
end Go.Proofs.Ytilfkppapimocaa
