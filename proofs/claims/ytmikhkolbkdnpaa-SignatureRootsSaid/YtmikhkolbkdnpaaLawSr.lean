/- SignatureRoots answers true for all arguments. -/
import Derived.Test.YtmikhkolbkdnpaaLawSg
namespace Go.Proofs.Ytmikhkolbkdnpaa
open Go.RowKit
set_option linter.unusedVariables false
set_option linter.unusedSimpArgs false

def rtC (b n x : Nat) : Bool := decide ((x * x + b * x + 1) % n = 0)
def rtN (b n : Nat) : Nat := cntB (rtC b n) n
def rtOk (n : Nat) : Bool := n == 0 || (rtV 4 4 n == (rtN 0 n : Nat) && rtV 3 9 n == (rtN 1 n : Nat))
set_option maxRecDepth 100000 in
theorem rt_all {n : Nat} (n1 : 1 ≤ n) (n2 : n ≤ 120) : rtV 4 4 n = (rtN 0 n : Nat) ∧ rtV 3 9 n = (rtN 1 n : Nat) := by
  have h : (List.range 121).all rtOk = true := by decide +kernel
  have h := List.all_eq_true.1 h n (List.mem_range.2 (by omega))
  unfold rtOk at h
  rw [Bool.or_eq_true] at h
  rcases h with h | h
  · simp at h; omega
  · simpa only [Bool.and_eq_true, beq_iff_eq] using h
set_option maxHeartbeats 3200000 in
set_option maxRecDepth 1000000 in
theorem rroots_any (n b : Nat) (w : World) (n1 : 1 ≤ n) (n2 : (n : Int) ≤ 120) (hb : b = 0 ∨ b = 1) :
    Calls Try.prog 24 #[.int .i64 (n : Int), .int .i64 (b : Int)] w fun e w' => e = .returned (.int .i64 (rtN b n : Nat)) ∧ Below w.heap.size w w' := by
  have HE : Hid (cntB (rtC b n) n = rtN b n) := rfl
  have HS := Lib.hid (fun k => show cntB (rtC b n) (k + 1) = cntB (rtC b n) k + (if rtC b n k = true then 1 else 0) from rfl)
  have HL := Lib.hid (fun k => cntB_leS (rtC b n) k)
  have HC : Hid (∀ k, rtC b n k = decide ((k * k + b * k + 1) % n = 0)) := fun k => rfl
  have hb1 : (b : Int) ≤ 1 := by omega
  go_enter Try.func24, Try.ntmps24
  go_wp2
  go_loopw [5, 6] (fun C X wr => ∃ k : Nat, X = .int .i64 k ∧ C = .int .i64 (cntB (rtC b n) k : Nat) ∧ k ≤ n ∧ wr = w) (fun _ X _ => n - (intOf X).toNat)
  case atStart => exact ⟨0, rfl, rfl, Nat.zero_le _, rfl⟩
  case round =>
    obtain ⟨k, rfl, rfl, hk, rfl⟩ := hrel
    by_cases hkn : k < n
    · have hki : (k : Int) < (n : Int) := by omega
      have hl := HL.out k
      have hs := Lib.hid (HS.out k)
      generalize cntB (rtC b n) k = c at *
      have hci : (c : Int) ≤ 120 := by omega
      have hk2 : k * k ≤ 120 * 120 := Nat.mul_le_mul (by omega) (by omega)
      have hbk : b * k ≤ 1 * 120 := Nat.mul_le_mul (by omega) (by omega)
      obtain ⟨q, hq⟩ : ∃ q, q = k * k := ⟨_, rfl⟩
      obtain ⟨r, hr⟩ : ∃ r, r = b * k := ⟨_, rfl⟩
      have hqi : (k : Int) * (k : Int) = (q : Int) := by rw [hq]; exact (Int.natCast_mul _ _).symm
      have hri : (b : Int) * (k : Int) = (r : Int) := by rw [hr]; exact (Int.natCast_mul _ _).symm
      rw [← hq] at hk2
      rw [← hr] at hbk
      have hcn : rtC b n k = decide ((q + r + 1) % n = 0) := by rw [HC.out, hq, hr]
      have hsum : (((q : Int) + (r : Int) + 1) % (n : Int)) = (((q + r + 1) % n : Nat) : Int) := by
        rw [show (q : Int) + (r : Int) + 1 = ((q + r + 1 : Nat) : Int) by omega]; exact (Int.natCast_emod _ _).symm
      clear hq hr
      by_cases e : (q + r + 1) % n = 0
      · rw [e] at hsum
        have hN : Hid (cntB (rtC b n) (k + 1) = c + 1) := by show _ = _; rw [hs.out, hcn, if_pos (decide_eq_true e)]
        clear hs hcn e
        go_wp2
        go_roundw
        case rel => exact ⟨k + 1, by go_num, by rw [hN.out]; go_num, by omega, trivial⟩
        case measure => simp [intOf]; omega
      · have hne : ((((q : Int) + (r : Int) + 1) % (n : Int)) == 0) = false := by rw [hsum, beq_eq_false_iff_ne]; omega
        clear hsum
        have hN : Hid (cntB (rtC b n) (k + 1) = c) := by show _ = _; rw [hs.out, hcn, if_neg (by simpa using e)]; rfl
        clear hs hcn e
        go_wp2
        go_roundw
        case rel => exact ⟨k + 1, by go_num, by rw [hN.out], by omega, trivial⟩
        case measure => simp [intOf]; omega
    · obtain rfl : k = n := by omega
      have hk3 : ¬ (k : Int) < (k : Int) := by omega
      go_wp2
      go_ret
      exact ⟨ret_int' (by rw [HE.out]), Below.refl _ _⟩
set_option maxHeartbeats 3200000 in
set_option maxRecDepth 1000000 in
theorem count0_bad (n : Int) (w : World) (hn : n < 1 ∨ 120 < n) :
    Calls Try.prog 41 #[.int .i64 n] w fun e w' => e = .returned (.tuple #[.int .i64 0, .int .i64 2]) ∧ Below w.heap.size w w' := by
  have HCk := Lib.hid (fun W => check0_any n W)
  rw [lv_no hn] at HCk
  go_enter Try.func41, Try.ntmps41
  go_wp2_with (first
    | (go_at_call 64; ((with_reducible refine (HCk.out _).mono ?_); rintro e w' ⟨rfl, rfl⟩))
    | fail)
  go_ret2
  exact ⟨rfl, Below.refl _ _⟩
set_option maxHeartbeats 3200000 in
set_option maxRecDepth 1000000 in
theorem formula0_bad (n : Int) (w : World) (hn : n < 1 ∨ 120 < n) :
    Calls Try.prog 17 #[.int .i64 n] w fun e w' => e = .returned (.tuple #[.agg #[.int .i64 0, .int .i64 0, .int .i64 0, .int .i64 0, .int .i64 0, .int .i64 0, .bool false], .int .i64 2]) ∧ Below w.heap.size w w' := by
  have HCu := Lib.hid (fun W => count0_bad n W hn)
  have T0 : Hid ((w.alloc (.cells #[.int .i64 0, .int .i64 0, .int .i64 0, .int .i64 0, .int .i64 0, .int .i64 0, .bool false] 27)).heap[w.heap.size]? = some (.cells #[.int .i64 0, .int .i64 0, .int .i64 0, .int .i64 0, .int .i64 0, .int .i64 0, .bool false] 27 (0, 0))) := heap_alloc_new w _
  have HB0 : Hid (Below w.heap.size w (w.alloc (.cells #[.int .i64 0, .int .i64 0, .int .i64 0, .int .i64 0, .int .i64 0, .int .i64 0, .bool false] 27))) := below1 w _
  clear hn
  go_enter Try.func17, Try.ntmps17
  go_wp2_with (first
    | (go_at_call 41; ((with_reducible refine (HCu.out _).mono ?_); rintro e w1 ⟨rfl, hb⟩; have HB1 := Lib.hid (bel0 HB0.out hb); have T1 := Lib.hid (block_below T0.out hb); obtain ⟨⟨t0, t1, t2, t3, t4, t5, t6⟩, _⟩ := seven_of_block T1.out; clear hb))
    | fail)
  obtain ⟨⟨s0, s1, s2, s3, s4, s5, s6⟩, _⟩ := seven_of_block (seven_set T1.out (.int .i64 0) (.int .i64 0) (.int .i64 0) (.int .i64 0) (.int .i64 0) (.int .i64 0) (.bool false))
  refine bodyPost_ret (v := .tuple #[.agg #[.int .i64 0, .int .i64 0, .int .i64 0, .int .i64 0, .int .i64 0, .int .i64 0, .bool false], .int .i64 2]) ?_ rfl ⟨rfl, seven_bel HB1.out _ _ _ _ _ _ _⟩
  simp [results, Try.results17, go_sem, s0, s1, s2, s3, s4, s5, s6]
set_option maxHeartbeats 3200000 in
set_option maxRecDepth 1000000 in
theorem elliptic_of (n x0 x1 x2 x3 x4 x5 z : Int) (x6 : Bool) (HF0 : ∀ W, Calls Try.prog 17 #[.int .i64 n] W fun e w' => e = .returned (.tuple #[.agg #[.int .i64 x0, .int .i64 x1, .int .i64 x2, .int .i64 x3, .int .i64 x4, .int .i64 x5, .bool x6], .int .i64 z]) ∧ Below W.heap.size W w') (w : World) :
    Calls Try.prog 19 #[.int .i64 n] w fun e w' => e = .returned (.tuple #[.int .i64 x2, .int .i64 x3, .int .i64 z]) ∧ Below w.heap.size w w' := by
  have HF := Lib.hid HF0
  clear HF0
  go_enter Try.func19, Try.ntmps19
  go_upto_region 2 with (first
    | (go_at_call 17; ((with_reducible refine (HF.out _).mono ?_); rintro e w1 ⟨rfl, hb⟩; have HB1 := Lib.hid hb; clear hb))
    | fail)
  have P1 := Lib.hid (heap_alloc_new w1 (.cells #[.int .i64 x0, .int .i64 x1, .int .i64 x2, .int .i64 x3, .int .i64 x4, .int .i64 x5, .bool x6] 27))
  have HB2 := Lib.hid (HB1.out.alloc HB1.out.size (.cells #[.int .i64 x0, .int .i64 x1, .int .i64 x2, .int .i64 x3, .int .i64 x4, .int .i64 x5, .bool x6] 27))
  obtain ⟨W, hW⟩ : ∃ W, W = w1.alloc (.cells #[.int .i64 x0, .int .i64 x1, .int .i64 x2, .int .i64 x3, .int .i64 x4, .int .i64 x5, .bool x6] 27) := ⟨_, rfl⟩
  rw [← hW] at P1 HB2 ⊢
  clear hW
  obtain ⟨⟨t0, t1, t2, t3, t4, t5, t6⟩, _⟩ := seven_of_block P1.out
  go_region
  go_wp2
  refine bodyPost_ret (v := .tuple #[.int .i64 x2, .int .i64 x3, .int .i64 z]) ?_ rfl ⟨rfl, HB2.out.drew⟩
  simp [results, Try.results19, go_sem]
set_option maxHeartbeats 3200000 in
set_option maxRecDepth 1000000 in
theorem sgrt_walk (n : Int) (w : World) :
    Calls Try.prog 9 #[.int .i64 n] w fun e w' => e = .returned (.bool true) ∧ Below w.heap.size w w' := by
  by_cases hn : n < 1 ∨ 120 < n
  · have HEl := Lib.hid (fun W => elliptic_of n _ _ _ _ _ _ _ _ (fun W => formula0_bad n W hn) W)
    clear hn
    go_enter Try.func9, Try.ntmps9
    go_wp2_with (first
      | (go_at_call 10; ((with_reducible refine (awake_any _).mono ?_); rintro e w1 ⟨rfl, hb⟩; have HB1 := Lib.hid hb; clear hb))
      | (go_at_call 19; ((with_reducible refine (HEl.out _).mono ?_); rintro e w2 ⟨rfl, hb⟩; have HB2 := Lib.hid (bel0 HB1.out hb); clear hb))
      | fail)
    go_ret
    exact ⟨rfl, HB2.out⟩
  · obtain ⟨m, rfl⟩ : ∃ m : Nat, n = (m : Nat) := ⟨n.toNat, by omega⟩
    have HEl := Lib.hid (fun W => elliptic_of (m : Int) _ _ _ _ _ _ _ _ (fun W => formula0_any m W (by omega) (by omega)) W)
    obtain ⟨r1, r2⟩ := rt_all (n := m) (by omega) (by omega)
    rw [r1, r2] at HEl
    have HR0 : Hid (∀ W, Calls Try.prog 24 #[.int .i64 (m : Int), .int .i64 0] W fun e w' => e = .returned (.int .i64 (rtN 0 m : Nat)) ∧ Below W.heap.size W w') := fun W => rroots_any m 0 W (by omega) (by omega) (.inl rfl)
    have HR1 : Hid (∀ W, Calls Try.prog 24 #[.int .i64 (m : Int), .int .i64 1] W fun e w' => e = .returned (.int .i64 (rtN 1 m : Nat)) ∧ Below W.heap.size W w') := fun W => rroots_any m 1 W (by omega) (by omega) (.inr rfl)
    clear hn r1 r2
    generalize rtN 0 m = u0 at *
    generalize rtN 1 m = u1 at *
    go_enter Try.func9, Try.ntmps9
    go_wp2_with (first
      | (go_at_call 10; ((with_reducible refine (awake_any _).mono ?_); rintro e w1 ⟨rfl, hb⟩; have HB1 := Lib.hid hb; clear hb))
      | (go_at_call 19; ((with_reducible refine (HEl.out _).mono ?_); rintro e w2 ⟨rfl, hb⟩; have HB2 := Lib.hid (bel0 HB1.out hb); clear hb))
      | (go_at_call 24; first
        | ((with_reducible refine (HR0.out _).mono ?_); rintro e w3 ⟨rfl, hb⟩; have HB3 := Lib.hid (bel0 HB2.out hb); clear hb)
        | ((with_reducible refine (HR1.out _).mono ?_); rintro e w4 ⟨rfl, hb⟩; have HB4 := Lib.hid (bel0 HB3.out hb); clear hb))
      | fail)
    go_ret
    exact ⟨rfl, HB4.out⟩
end Go.Proofs.Ytmikhkolbkdnpaa
