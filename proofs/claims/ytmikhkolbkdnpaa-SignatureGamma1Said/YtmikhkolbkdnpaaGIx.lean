/- The contracts of Check and Has of all groups, and of the reference's. The coset function of Gamma0(2), its search, and what the guard of the laws asks. The contracts of Index, checkIndex, Of and Representatives. -/
import Derived.Test.YtmikhkolbkdnpaaDetL
import Derived.Test.YtmikhkolbkdnpaaBoxL
import Derived.Test.YtmikhkolbkdnpaaLawK
import Derived.Test.YtmikhkolbkdnpaaSrL
import Derived.Test.YtmikhkolbkdnpaaNrN
import Derived.Test.YtmikhkolbkdnpaaPsL
namespace Go.Proofs.Ytmikhkolbkdnpaa
open Go.RowKit
set_option linter.unusedVariables false
set_option linter.unusedSimpArgs false

/-- The error of a group. -/
def gckI (k n : Int) : Int := if k < 1 ∨ 4 < k then 20 else if n < 1 ∨ 120 < n then 2 else 0
theorem gck_cases (k n : Int) : ((k < 1 ∨ 4 < k) ∧ gckI k n = 20) ∨ ((1 ≤ k ∧ k ≤ 4) ∧ (n < 1 ∨ 120 < n) ∧ gckI k n = 2) ∨ ((1 ≤ k ∧ k ≤ 4) ∧ (1 ≤ n ∧ n ≤ 120) ∧ gckI k n = 0) := by
  unfold gckI
  by_cases h : k < 1 ∨ 4 < k
  · exact .inl ⟨h, if_pos h⟩
  · by_cases h2 : n < 1 ∨ 120 < n
    · exact .inr (.inl ⟨by omega, h2, by rw [if_neg h, if_pos h2]⟩)
    · exact .inr (.inr ⟨by omega, by omega, by rw [if_neg h, if_neg h2]⟩)
theorem four_kinds {k : Int} (h : 1 ≤ k ∧ k ≤ 4) : k = 1 ∨ k = 2 ∨ k = 3 ∨ k = 4 := by omega
/-- Whether a matrix is in a group. -/
def hasV (k n a b c d : Int) : Bool :=
  if k = 1 then c.tmod n == 0 else if k = 2 then c.tmod n == 0 && ((a - 1).tmod n == 0 && (d - 1).tmod n == 0) else if k = 3 then c.tmod n == 0 && ((a - 1).tmod n == 0 && (d - 1).tmod n == 0) && b.tmod n == 0 else b.tmod n == 0
def hasE (k n a b c d : Int) : Int := if gckI k n = 0 then chkI a b c d else gckI k n
def hasR (k n a b c d : Int) : Bool := if hasE k n a b c d = 0 then hasV k n a b c d else false
set_option maxHeartbeats 800000 in
set_option maxRecDepth 1000000 in
theorem gcheck_any (k n : Int) (w : World) : Calls Try.prog 84 #[.agg #[.int .i64 k, .int .i64 n]] w fun e w' => e = .returned (.int .i64 (gckI k n)) ∧ Below w.heap.size w w' := by
  rcases gck_cases k n with ⟨h, e⟩ | ⟨h, h2, e⟩ | ⟨h, h2, e⟩
  · rw [e]
    clear e
    have d1 : (k == 1) = false := by rw [beq_eq_false_iff_ne]; omega
    have d2 : (k == 2) = false := by rw [beq_eq_false_iff_ne]; omega
    have d3 : (k == 3) = false := by rw [beq_eq_false_iff_ne]; omega
    have d4 : (k == 4) = false := by rw [beq_eq_false_iff_ne]; omega
    clear h
    go_enter Try.func84, Try.ntmps84
    go_wp2
    go_ret
    exact ⟨rfl, below1 _ _⟩
  all_goals
    rw [e]
    clear e
    rcases four_kinds h with rfl | rfl | rfl | rfl
  iterate 4
    clear h
    rcases h2 with h2 | h2
    · have d1 : decide (n < 1) = true := by simp; omega
      go_enter Try.func84, Try.ntmps84
      go_wp2
      go_ret
      exact ⟨rfl, below1 _ _⟩
    · have d1 : decide (n < 1) = false := by simp; omega
      have d2 : decide (120 < n) = true := by simp; omega
      go_enter Try.func84, Try.ntmps84
      go_wp2
      go_ret
      exact ⟨rfl, below1 _ _⟩
  all_goals
    clear h
    have d1 : decide (n < 1) = false := by simp; omega
    have d2 : decide (120 < n) = false := by simp; omega
    go_enter Try.func84, Try.ntmps84
    go_wp2
    go_ret
    exact ⟨rfl, below1 _ _⟩
end Go.Proofs.Ytmikhkolbkdnpaa
namespace Go.Proofs.Ytmikhkolbkdnpaa
open Go.RowKit
set_option linter.unusedVariables false
set_option linter.unusedSimpArgs false

set_option maxHeartbeats 1600000 in
set_option maxRecDepth 1000000 in
theorem point_at {n c d U V T : Int} (hn : ∀ W, Calls Try.prog 90 #[.int .i64 n, .int .i64 c, .int .i64 d] W fun e w' => e = .returned (.tuple #[.agg #[.int .i64 U, .int .i64 V, .int .i64 T], .int .i64 0]) ∧ Below W.heap.size W w') (w : World) :
    Calls Try.prog 85 #[.int .i64 n, .int .i64 c, .int .i64 d] w fun e w' => e = .returned (.agg #[.int .i64 U, .int .i64 V, .int .i64 0, .int .i64 0]) ∧ Below w.heap.size w w' := by
  have HN := Lib.hid (fun W => hn W)
  clear hn
  go_enter Try.func85, Try.ntmps85
  go_wp2_with (first
    | (go_at_call 90; ((with_reducible refine (HN.out _).mono ?_); rintro e w1 ⟨rfl, hb⟩; have HB1 : Hid (Below w.heap.size w w1) := bel1 (Below.refl _ _) hb; have F1 : Hid (w1.heap[w.heap.size]? = some (.cells #[.int .i64 0, .int .i64 0, .int .i64 0, .int .i64 0] 107 (0, 0))) := block_below (heap_alloc_new w _) hb; obtain ⟨⟨k1, k2, k3, k4⟩, fz⟩ := four_of_block F1.out; have f1 := fz 0; have f2 := fz 1; have f3 := fz 2; have f4 := fz 3; clear fz; have hz := lt_of_block F1.out; clear hb))
    | fail)
  have hS := four_set F1.out (.int .i64 U) (.int .i64 V) (.int .i64 0) (.int .i64 0)
  obtain ⟨⟨r1, r2, r3, r4⟩, _⟩ := four_of_block (block_alloc hS (.cells #[.int .i64 U, .int .i64 V, .int .i64 T] 125))
  refine bodyPost_ret (v := .agg #[.int .i64 U, .int .i64 V, .int .i64 0, .int .i64 0]) ?_ rfl ⟨rfl, (below_set4 HB1.out (Nat.le_refl _) _ _ _ _).trans ((below1 _ _).mono (by have := HB1.out.size; simpa using this))⟩
  simp [results, Try.results85, go_sem, r1, r2, r3, r4]
set_option maxHeartbeats 1600000 in
set_option maxRecDepth 1000000 in
theorem cos0_at {n a b c d U V T : Int} (hn : ∀ W, Calls Try.prog 90 #[.int .i64 n, .int .i64 c, .int .i64 d] W fun e w' => e = .returned (.tuple #[.agg #[.int .i64 U, .int .i64 V, .int .i64 T], .int .i64 0]) ∧ Below W.heap.size W w') : CosC 1 n a b c d U V 0 0 := by
  intro w
  have HN := Lib.hid (fun W => point_at hn W)
  clear hn
  go_enter Try.func72, Try.ntmps72
  go_wp2_with (first
    | (go_at_call 85; ((with_reducible refine (HN.out _).mono ?_); rintro e w1 ⟨rfl, hb⟩; have HB1 : Hid (Below w.heap.size w w1) := (below3 w _ _ _).trans (hb.mono (by simp; omega)); have F1 : Hid (w1.heap[w.heap.size + 1 + 1]? = some (.cells #[.int .i64 0, .int .i64 0, .int .i64 0, .int .i64 0] 107 (0, 0))) := block_below (by have := heap_alloc_new ((w.alloc (.cells #[.int .i64 1, .int .i64 n] 51)).alloc (.cells #[.int .i64 a, .int .i64 b, .int .i64 c, .int .i64 d] 106)) (.cells #[.int .i64 0, .int .i64 0, .int .i64 0, .int .i64 0] 107); simpa using this) hb; obtain ⟨⟨k1, k2, k3, k4⟩, fz⟩ := four_of_block F1.out; have f1 := fz 0; have f2 := fz 1; have f3 := fz 2; have f4 := fz 3; clear fz; have hz := lt_of_block F1.out; clear hb))
    | fail)
  obtain ⟨⟨r1, r2, r3, r4⟩, _⟩ := four_of_block (four_set F1.out (.int .i64 U) (.int .i64 V) (.int .i64 0) (.int .i64 0))
  refine bodyPost_ret (v := .agg #[.int .i64 U, .int .i64 V, .int .i64 0, .int .i64 0]) ?_ rfl ⟨rfl, below_set4 HB1.out (by omega) _ _ _ _⟩
  simp [results, Try.results72, go_sem, r1, r2, r3, r4]
/-- The coset function modulo 2. -/
def co2 (m : M4) : K4 := (m.2.2.1 % 2, m.2.2.2 % 2, 0, 0)
theorem nf2 (c d : Int) : NF 2 c d (c % 2) (d % 2) 1 := by
  refine ⟨by omega, by omega, by omega, by omega, by decide, by decide, by decide, ⟨-(c / 2), by omega⟩, ⟨-(d / 2), by omega⟩, fun s hs => ?_⟩
  have h := unit_mod hs
  have s0 : s % 2 = 0 ∨ s % 2 = 1 := by omega
  rcases s0 with s0 | s0
  · rw [s0] at h; exact absurd h (by decide)
  · have hc : (s * c) % 2 = c % 2 := by rw [Int.mul_emod, s0, Int.one_mul, Int.emod_emod_of_dvd _ (Int.dvd_refl 2)]
    have hd : (s * d) % 2 = d % 2 := by rw [Int.mul_emod, s0, Int.one_mul, Int.emod_emod_of_dvd _ (Int.dvd_refl 2)]
    rw [hc, hd]
    exact .inr ⟨rfl, Int.le_refl _⟩
theorem com2 (a b c d : Int) (h1 : inE c = true) (h2 : inE d = true) (hg : Int.gcd (Int.gcd c d) 2 = 1) : CoM 1 2 co2 (a, b, c, d) := by
  refine ⟨cos0_at (T := 1) fun W => (pnormal_any 2 c d W).mono ?_, ?_⟩
  · rintro e w' ⟨U, V, T, k, hE, rfl, hb⟩
    obtain ⟨rfl, rfl, rfl, rfl⟩ := hE.unique (NorE.yes _ _ 1 (by decide) (by decide) h1 h2 hg (nf2 c d))
    exact ⟨rfl, hb⟩
  · show wf4 (c % 2, d % 2, 0, 0)
    have hc : c % 2 = 0 ∨ c % 2 = 1 := by omega
    have hd : d % 2 = 0 ∨ d % 2 = 1 := by omega
    rcases hc with hc | hc <;> rcases hd with hd | hd <;> rw [hc, hd] <;> exact ⟨by decide, by decide, by decide, by decide⟩
theorem sr2 : (srun co2 3).S = [1, 0, 2] ∧ (srun co2 3).T = [0, 2, 1] ∧ (srun co2 3).L = [(1, 0, 0, 1), (0, -1, 1, 0), (0, -1, 1, 1)] := by decide +kernel
theorem search2 (w : World) : Calls Try.prog 48 #[.agg #[.int .i64 1, .int .i64 2]] w fun e w' => ∃ vS vT vl, e = .returned (.tuple #[.agg #[vS, vT], vl]) ∧
    w'.ownsRow w.heap.size 3 1 vS 3 (is [1, 0, 2]) ∧ w'.ownsRow w.heap.size 3 1 vT 3 (is [0, 2, 1]) ∧ w'.ownsRow w.heap.size 106 4 vl 3 (ms [(1, 0, 0, 1), (0, -1, 1, 0), (0, -1, 1, 1)]) ∧ Below w.heap.size w w' := by
  have h := search_any 1 2 co2 3 w (by decide +kernel) (fun i hi => by
    obtain rfl | rfl | rfl : i = 0 ∨ i = 1 ∨ i = 2 := by omega
    all_goals decide +kernel) (by decide) (fun i hi => by
    obtain rfl | rfl | rfl : i = 0 ∨ i = 1 ∨ i = 2 := by omega
    · exact ⟨by decide, by decide, by decide, by decide⟩
    · rw [show (srun co2 1).L.getD 1 (0, 0, 0, 0) = (0, -1, 1, 0) from by decide +kernel]; exact ⟨by decide, by decide, by decide, by decide⟩
    · rw [show (srun co2 2).L.getD 2 (0, 0, 0, 0) = (0, -1, 1, 1) from by decide +kernel]; exact ⟨by decide, by decide, by decide, by decide⟩) (fun i hi => by
    obtain rfl | rfl | rfl : i = 0 ∨ i = 1 ∨ i = 2 := by omega
    · exact ⟨com2 _ _ _ _ (by decide) (by decide) (by decide), com2 _ _ _ _ (by decide) (by decide) (by decide)⟩
    · rw [show (srun co2 1).L.getD 1 (0, 0, 0, 0) = (0, -1, 1, 0) from by decide +kernel]; exact ⟨com2 _ _ _ _ (by decide) (by decide) (by decide), com2 _ _ _ _ (by decide) (by decide) (by decide)⟩
    · rw [show (srun co2 2).L.getD 2 (0, 0, 0, 0) = (0, -1, 1, 1) from by decide +kernel]; exact ⟨com2 _ _ _ _ (by decide) (by decide) (by decide), com2 _ _ _ _ (by decide) (by decide) (by decide)⟩) (com2 _ _ _ _ (by decide) (by decide) (by decide))
  rw [sr2.1, sr2.2.1, sr2.2.2] at h
  exact h
end Go.Proofs.Ytmikhkolbkdnpaa
namespace Go.Proofs.Ytmikhkolbkdnpaa
open Go.RowKit
set_option linter.unusedVariables false
set_option linter.unusedSimpArgs false

theorem phiL_le : ∀ (l : List (Nat × Nat)) (x : Nat), phiL l x ≤ x
  | [], x => Nat.le_refl _
  | f :: l, x => Nat.le_trans (phiL_le l _) (Nat.sub_le _ _)
def idxN (k : Int) (n : Nat) : Nat := if k = 2 then psiN n * phiN n else if k = 3 then psiN n * (phiN n * n) else psiN n
def idxI (k n : Int) : Int := if gckI k n = 0 then (idxN k n.toNat : Nat) else 0
def ckxI (k n : Int) : Int := if gckI k n = 0 then if 1152 < idxI k n then 7 else 0 else gckI k n
theorem psi_le {n : Nat} (h : PsF n) : psiN n ≤ 1000 := by
  have := h.bd _ (Nat.le_refl _)
  rw [List.take_length] at this
  exact this
theorem mul_le3 {a b c : Nat} (ha : a ≤ 1000) (hb : b ≤ 120) (hc : c ≤ 120) : a * b ≤ 120000 ∧ b * c ≤ 14400 ∧ a * (b * c) ≤ 14400000 :=
  ⟨Nat.mul_le_mul ha hb, Nat.mul_le_mul hb hc, Nat.mul_le_mul ha (Nat.mul_le_mul hb hc)⟩
set_option maxHeartbeats 3200000 in
set_option maxRecDepth 1000000 in
theorem index_any (k n : Int) (w : World) :
    Calls Try.prog 71 #[.agg #[.int .i64 k, .int .i64 n]] w fun e w' => e = .returned (.tuple #[.int .i64 (idxI k n), .int .i64 (gckI k n)]) ∧ Below w.heap.size w w' := by
  have HC := Lib.hid (fun W => gcheck_any k n W)
  by_cases hg : gckI k n = 0
  case neg =>
    rw [show idxI k n = 0 from if_neg hg]
    generalize gckI k n = z at *
    go_enter Try.func71, Try.ntmps71
    go_wp2_with (first
      | (go_at_call 84; ((with_reducible refine (HC.out _).mono ?_); rintro e w1 ⟨rfl, hb⟩; have HB1 : Hid (Below w.heap.size w w1) := bel1 (Below.refl _ _) hb; clear hb))
      | fail)
    refine bodyPost_ret (v := .tuple #[.int .i64 0, .int .i64 z]) ?_ rfl ⟨rfl, HB1.out⟩
    simp [results, Try.results71, go_sem, *]
  rw [show idxI k n = (idxN k n.toNat : Nat) from if_pos hg, hg]
  rw [hg] at HC
  obtain ⟨hkk, n1, n2⟩ : (1 ≤ k ∧ k ≤ 4) ∧ (1 ≤ n ∧ n ≤ 120) := by
    rcases gck_cases k n with ⟨_, e⟩ | ⟨_, _, e⟩ | ⟨h, h2, _⟩
    · rw [hg] at e; exact absurd e (by decide)
    · rw [hg] at e; exact absurd e (by decide)
    · exact ⟨h, h2⟩
  clear hg
  obtain ⟨m, rfl⟩ : ∃ m : Nat, n = m := ⟨n.toNat, by omega⟩
  rw [Int.toNat_natCast]
  have HP := Lib.hid (fun W => psi_any m W (by omega) n2)
  have HF := Lib.hid (fun W => phi_any m W (by omega) n2)
  have hs := psi_le (ps_of (n := m) (by omega) (by omega))
  have hf : phiN m ≤ 120 := Nat.le_trans (phiL_le _ _) (by omega)
  obtain ⟨p1, p2, p3⟩ := mul_le3 hs hf (show m ≤ 120 by omega)
  have hidx : ∀ s f, s = psiN m → f = phiN m → idxN k m = if k = 2 then s * f else if k = 3 then s * (f * m) else s := fun s f h1 h2 => by rw [h1, h2]; rfl
  obtain ⟨s, hs'⟩ : ∃ s, s = psiN m := ⟨_, rfl⟩
  obtain ⟨f, hf'⟩ : ∃ f, f = phiN m := ⟨_, rfl⟩
  rw [hidx s f hs' hf']
  rw [← hs'] at HP p1 p3 hs
  rw [← hf'] at HF p1 p2 p3 hf
  clear hs' hf' hidx
  have q1 : IntKind.i64.wrap ((s : Int) * (f : Int)) = (s : Int) * (f : Int) := by
    rw [← Int.natCast_mul]; exact IntWalk.i64_in _ (by omega)
  have q2 : IntKind.i64.wrap ((f : Int) * (m : Int)) = (f : Int) * (m : Int) := by
    rw [← Int.natCast_mul]; exact IntWalk.i64_in _ (by omega)
  have q3 : IntKind.i64.wrap ((s : Int) * ((f : Int) * (m : Int))) = (s : Int) * ((f : Int) * (m : Int)) := by
    rw [← Int.natCast_mul, ← Int.natCast_mul]; exact IntWalk.i64_in _ (by omega)
  clear p1 p2 p3
  rcases four_kinds hkk with rfl | rfl | rfl | rfl
  all_goals
    clear hkk
    simp only [reduceIte, Int.reduceEq]
    go_enter Try.func71, Try.ntmps71
    go_wp2_with (first
      | (go_at_call 84; ((with_reducible refine (HC.out _).mono ?_); rintro e w1 ⟨rfl, hb⟩; have T := Lib.hid (block_below (heap_alloc_new w _) hb); have HB1 : Hid (Below w.heap.size w w1) := bel1 (Below.refl _ _) hb; obtain ⟨⟨t1, t2⟩, _⟩ := two_of_block T.out; have hz := lt_of_block T.out; clear hb))
      | (go_at_call 42; ((with_reducible refine (HP.out _).mono ?_); rintro e w2 ⟨rfl, hb⟩; have T2 := Lib.hid (block_below T.out hb); have HB2 := Lib.hid (bel0 HB1.out hb); clear hb t1 t2 hz; obtain ⟨⟨t1, t2⟩, _⟩ := two_of_block T2.out; have hz := lt_of_block T2.out))
      | (go_at_call 49; ((with_reducible refine (HF.out _).mono ?_); rintro e w3 ⟨rfl, hb⟩; have T3 := Lib.hid (block_below T2.out hb); have HB3 := Lib.hid (bel0 HB2.out hb); clear hb t1 t2 hz; obtain ⟨⟨t1, t2⟩, _⟩ := two_of_block T3.out; have hz := lt_of_block T3.out))
      | fail)
    refine bodyPost_ret ?_ rfl ⟨rfl, HB3.out⟩
    simp [results, Try.results71, go_sem, *]
set_option maxHeartbeats 3200000 in
set_option maxRecDepth 1000000 in
theorem ckx_any (k n : Int) (w : World) :
    Calls Try.prog 47 #[.agg #[.int .i64 k, .int .i64 n]] w fun e w' => e = .returned (.int .i64 (ckxI k n)) ∧ Below w.heap.size w w' := by
  have HC := Lib.hid (fun W => index_any k n W)
  by_cases hg : gckI k n = 0
  case neg =>
    rw [show ckxI k n = gckI k n from if_neg hg]
    generalize gckI k n = z at *
    generalize idxI k n = x at *
    go_enter Try.func47, Try.ntmps47
    go_wp2_with (first
      | (go_at_call 71; ((with_reducible refine (HC.out _).mono ?_); rintro e w1 ⟨rfl, hb⟩; have HB1 : Hid (Below w.heap.size w w1) := bel1 (Below.refl _ _) hb; clear hb))
      | fail)
    go_ret
    exact ⟨rfl, HB1.out⟩
  rw [show ckxI k n = if 1152 < idxI k n then 7 else 0 from if_pos hg]
  rw [hg] at HC
  clear hg
  generalize idxI k n = x at *
  by_cases hx : 1152 < x
  · rw [if_pos hx]
    have d1 : decide (1152 < x) = true := by simpa using hx
    go_enter Try.func47, Try.ntmps47
    go_wp2_with (first
      | (go_at_call 71; ((with_reducible refine (HC.out _).mono ?_); rintro e w1 ⟨rfl, hb⟩; have HB1 : Hid (Below w.heap.size w w1) := bel1 (Below.refl _ _) hb; clear hb))
      | fail)
    go_ret
    exact ⟨rfl, HB1.out⟩
  · rw [if_neg hx]
    have d1 : decide (1152 < x) = false := by simpa using hx
    go_enter Try.func47, Try.ntmps47
    go_wp2_with (first
      | (go_at_call 71; ((with_reducible refine (HC.out _).mono ?_); rintro e w1 ⟨rfl, hb⟩; have HB1 : Hid (Below w.heap.size w w1) := bel1 (Below.refl _ _) hb; clear hb))
      | fail)
    go_ret
    exact ⟨rfl, HB1.out⟩
end Go.Proofs.Ytmikhkolbkdnpaa
