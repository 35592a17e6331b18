/- CorrespondenceCounts: IsPrime for small numbers, the guard of layer 46, the law. -/
import Derived.Test.YthkhdbngeifenaaCorB
namespace Go.Proofs.Ythkhdbngeifenaa
open Go.RowKit
set_option linter.unusedVariables false
set_option linter.unusedSimpArgs false

set_option maxHeartbeats 800000 in
set_option maxRecDepth 1000000 in
theorem least64 (n : Nat) (w : World) (n1 : 2 ≤ n) (n2 : n ≤ 64) : Calls Try.prog 19 #[.int .i64 (n : Int)] w fun e w' => e = .returned (.int .i64 (lp n : Nat)) ∧ w = w' := by
  have hi1 : 2 ≤ (n : Int) := by omega
  have hi2 : (n : Int) ≤ 64 := by omega
  by_cases h2 : n % 2 = 0
  · have HL : Hid (((2 : Nat) : Int) = (lp n : Nat)) := by show _ = _; unfold lp; rw [if_pos h2]
    have e2 : ((n : Int) % 2 == 0) = true := by rw [beq_iff_eq]; omega
    clear h2
    go_enter Try.func19, Try.ntmps19
    go_wp2
    go_ret
    exact ⟨ret_int' HL.out, rfl⟩
  have e2 : ((n : Int) % 2 == 0) = false := by rw [beq_eq_false_iff_ne]; omega
  by_cases h3 : n % 3 = 0
  · have HL : Hid (((3 : Nat) : Int) = (lp n : Nat)) := by show _ = _; unfold lp; rw [if_neg h2, if_pos h3]
    have e3 : ((n : Int) % 3 == 0) = true := by rw [beq_iff_eq]; omega
    clear h2 h3
    go_enter Try.func19, Try.ntmps19
    go_wp2
    go_ret
    exact ⟨ret_int' HL.out, rfl⟩
  have e3 : ((n : Int) % 3 == 0) = false := by rw [beq_eq_false_iff_ne]; omega
  by_cases h25 : 25 ≤ n
  · have h25i : 25 ≤ (n : Int) := by omega
    by_cases h5 : n % 5 = 0
    · have HL : Hid (((5 : Nat) : Int) = (lp n : Nat)) := by show _ = _; unfold lp; rw [if_neg h2, if_neg h3, if_pos ⟨h25, h5⟩]
      have e5 : ((n : Int) % 5 == 0) = true := by rw [beq_iff_eq]; omega
      clear h2 h3 h5
      go_enter Try.func19, Try.ntmps19
      go_wp2
      refine wp_loop_rounds 1 ?_
      rw [rounds_succ]
      go_wp2
      go_ret
      exact ⟨ret_int' HL.out, rfl⟩
    have e5 : ((n : Int) % 5 == 0) = false := by rw [beq_eq_false_iff_ne]; omega
    by_cases h7 : n % 7 = 0
    · have HL : Hid (((7 : Nat) : Int) = (lp n : Nat)) := by show _ = _; unfold lp; rw [if_neg h2, if_neg h3, if_neg (fun h => h5 h.2), if_pos ⟨h25, h7⟩]
      have e7 : ((n : Int) % 7 == 0) = true := by rw [beq_iff_eq]; omega
      clear h2 h3 h5 h7
      go_enter Try.func19, Try.ntmps19
      go_wp2
      refine wp_loop_rounds 1 ?_
      rw [rounds_succ]
      go_wp2
      go_ret
      exact ⟨ret_int' HL.out, rfl⟩
    have e7 : ((n : Int) % 7 == 0) = false := by rw [beq_eq_false_iff_ne]; omega
    have HL : Hid (((n : Nat) : Int) = (lp n : Nat)) := by show _ = _; unfold lp; rw [if_neg h2, if_neg h3, if_neg (fun h => h5 h.2), if_neg (fun h => h7 h.2)]
    clear h2 h3 h5 h7
    go_enter Try.func19, Try.ntmps19
    go_wp2
    refine wp_loop_rounds 2 ?_
    rw [rounds_succ]
    go_wp2
    rw [rounds_succ]
    go_wp2
    go_ret
    exact ⟨ret_int' HL.out, rfl⟩
  · have HL : Hid (((n : Nat) : Int) = (lp n : Nat)) := by show _ = _; unfold lp; rw [if_neg h2, if_neg h3, if_neg (fun h => h25 h.1), if_neg (fun h => h25 h.1)]
    have h25i : (n : Int) < 25 := by omega
    clear h2 h3
    go_enter Try.func19, Try.ntmps19
    go_wp2
    refine wp_loop_rounds 1 ?_
    rw [rounds_succ]
    go_wp2
    go_ret
    exact ⟨ret_int' HL.out, rfl⟩
def pB (n : Nat) : Bool := decide (2 ≤ n) && decide (lp n = n)
set_option maxHeartbeats 800000 in
set_option maxRecDepth 1000000 in
theorem prime64 (n : Nat) (w : World) (n1 : 1 ≤ n) (n2 : n ≤ 64) : Calls Try.prog 11 #[.int .i64 (n : Int)] w fun e w' => e = .returned (.tuple #[.bool (pB n), .int .i64 0]) ∧ w = w' := by
  have hi1 : 1 ≤ (n : Int) := by omega
  have hi2 : (n : Int) ≤ 64 := by omega
  by_cases h : 2 ≤ n
  · have hi : 2 ≤ (n : Int) := by omega
    have HLe := Lib.hid (fun V => least64 n V h n2)
    by_cases hp : lp n = n
    · have HP : Hid (pB n = true) := by show _ = _; unfold pB; rw [decide_eq_true h, decide_eq_true hp]; rfl
      rw [hp] at HLe
      clear hp
      go_enter Try.func11, Try.ntmps11
      go_wp2_with (first | (go_at_call 19; ((with_reducible refine (HLe.out _).mono ?_); rintro e v1 ⟨rfl, rfl⟩)) | fail)
      rw [HP.out]
      go_ret2
      exact ⟨rfl, rfl⟩
    · have HP : Hid (pB n = false) := by show _ = _; unfold pB; rw [decide_eq_true h, decide_eq_false hp]; rfl
      have hne : (((lp n : Nat) : Int) == (n : Int)) = false := by rw [beq_eq_false_iff_ne]; omega
      clear hp
      generalize lp n = r at *
      go_enter Try.func11, Try.ntmps11
      go_wp2_with (first | (go_at_call 19; ((with_reducible refine (HLe.out _).mono ?_); rintro e v1 ⟨rfl, rfl⟩)) | fail)
      rw [HP.out]
      go_ret2
      exact ⟨rfl, rfl⟩
  · have hi : (n : Int) < 2 := by omega
    have HP : Hid (pB n = false) := by show _ = _; unfold pB; rw [decide_eq_false h]; rfl
    go_enter Try.func11, Try.ntmps11
    go_wp2
    rw [HP.out]
    go_ret2
    exact ⟨rfl, rfl⟩
/-- The lengths of the lists. -/
theorem cosets_len (N n : Nat) (W D : Int) (w : World) (h : ckV N W D = 0) (n1 : 1 ≤ n) (n2 : (n : Int) ≤ 128) :
    Calls Try.prog 6 #[.agg #[.int .i64 (N : Int), .int .i64 W, .int .i64 D], .int .i64 (n : Int)] w fun e w' => ∃ A1 c1 A2 c2, e = .returned (.tuple #[.slice A1 (csS N n n) c1, .slice A2 (csS N n n) c2, .int .i64 0]) ∧ Below w.heap.size w w' := by
  refine (cosets_ok N n W D w h n1 n2).mono fun e w' ⟨A1, c1, A2, c2, he, hq⟩ => ?_
  have h1 : (coM N n (dvN n)).length = csS N n n := co_len N n n
  rw [co_same, h1] at he
  exact ⟨A1, c1, A2, c2, he, hq.bel⟩
theorem gcdB (a b : Nat) (w : World) (ha : (a : Int) ≤ 128) (hb : (b : Int) ≤ 128) : Calls Try.prog 10 #[.int .i64 (a : Int), .int .i64 (b : Int)] w fun e w' => e = .returned (.int .i64 (Nat.gcd a b : Nat)) ∧ Below w.heap.size w w' :=
  (gcd128 a b w ha hb).mono fun e w' ⟨he, n, hd⟩ => ⟨he, by rw [hd]; exact below_drewN (Below.refl _ _) n⟩
theorem cs_bd {N n : Nat} (hn : n ≤ 128) : csS N n n ≤ 17000 := by
  have h1 : (coM N n (dvN n)).length = csS N n n := co_len N n n
  have h2 := coM_bd N n hn (dvN n)
  have h3 : (dvN n).length ≤ 129 := by
    have := List.length_filter_le (fun d => decide (1 ≤ d) && decide (n % d = 0)) (List.range (n + 1))
    rw [List.length_range] at this
    exact Nat.le_trans this (by omega)
  omega
set_option maxHeartbeats 3200000 in
set_option maxRecDepth 1000000 in
theorem ccounts_walk (N W D a b : Int) (w : World) : Calls Try.prog 4 #[.agg #[.int .i64 N, .int .i64 W, .int .i64 D], .int .i64 a, .int .i64 b] w fun e w' => e = .returned (.bool true) ∧ Below w.heap.size w w' := by
  have T : Hid ((w.alloc (.cells #[.int .i64 N, .int .i64 W, .int .i64 D] 23)).heap[w.heap.size]? = some (.cells #[.int .i64 N, .int .i64 W, .int .i64 D] 23 (0, 0))) := heap_alloc_new w _
  have HB : Hid (Below w.heap.size w (w.alloc (.cells #[.int .i64 N, .int .i64 W, .int .i64 D] 23))) := below1 w _
  obtain ⟨⟨c0, c1, c2⟩, _⟩ := three_of_blockD T.out
  have HA := Lib.hid awake46_any
  by_cases h1 : a < 1
  · go_enter Try.func4, Try.ntmps4
    go_wp2_with (first
        | (go_at_call 5; ((with_reducible refine (HA.out _).mono ?_); rintro e v ⟨rfl, hb⟩; have HX := Lib.hid (bel0 HB.out hb); have TX := Lib.hid (block_below T.out hb); clear HB T c0 c1 c2 hb; have HB := HX; have T := TX; clear HX TX; obtain ⟨⟨c0, c1, c2⟩, _⟩ := three_of_blockD T.out))
        | fail)
    go_ret
    exact ⟨by first | rfl | simp, HB.out⟩
  have h1' : 1 ≤ a := by omega
  by_cases h2 : b < 1
  · go_enter Try.func4, Try.ntmps4
    go_wp2_with (first
        | (go_at_call 5; ((with_reducible refine (HA.out _).mono ?_); rintro e v ⟨rfl, hb⟩; have HX := Lib.hid (bel0 HB.out hb); have TX := Lib.hid (block_below T.out hb); clear HB T c0 c1 c2 hb; have HB := HX; have T := TX; clear HX TX; obtain ⟨⟨c0, c1, c2⟩, _⟩ := three_of_blockD T.out))
        | fail)
    go_ret
    exact ⟨by first | rfl | simp, HB.out⟩
  have h2' : 1 ≤ b := by omega
  by_cases h3 : 64 < a
  · go_enter Try.func4, Try.ntmps4
    go_wp2_with (first
        | (go_at_call 5; ((with_reducible refine (HA.out _).mono ?_); rintro e v ⟨rfl, hb⟩; have HX := Lib.hid (bel0 HB.out hb); have TX := Lib.hid (block_below T.out hb); clear HB T c0 c1 c2 hb; have HB := HX; have T := TX; clear HX TX; obtain ⟨⟨c0, c1, c2⟩, _⟩ := three_of_blockD T.out))
        | fail)
    go_ret
    exact ⟨by first | rfl | simp, HB.out⟩
  have h3' : a ≤ 64 := by omega
  by_cases h4 : 64 < b
  · go_enter Try.func4, Try.ntmps4
    go_wp2_with (first
        | (go_at_call 5; ((with_reducible refine (HA.out _).mono ?_); rintro e v ⟨rfl, hb⟩; have HX := Lib.hid (bel0 HB.out hb); have TX := Lib.hid (block_below T.out hb); clear HB T c0 c1 c2 hb; have HB := HX; have T := TX; clear HX TX; obtain ⟨⟨c0, c1, c2⟩, _⟩ := three_of_blockD T.out))
        | fail)
    go_ret
    exact ⟨by first | rfl | simp, HB.out⟩
  have h4' : b ≤ 64 := by omega
  clear h1 h2 h3 h4
  obtain ⟨x, rfl⟩ : ∃ x : Nat, a = x := ⟨a.toNat, by omega⟩
  obtain ⟨y, rfl⟩ : ∃ y : Nat, b = y := ⟨b.toNat, by omega⟩
  obtain ⟨m, hm⟩ : ∃ m : Nat, m = x * y := ⟨_, rfl⟩
  have hxy : (x : Int) * (y : Int) = (m : Int) := by rw [hm, Int.natCast_mul]
  have hm0 : m ≤ 4096 := by rw [hm]; exact Nat.mul_le_mul (show x ≤ 64 by omega) (show y ≤ 64 by omega)
  have hm1 : 1 ≤ m := by rw [hm]; exact Nat.mul_pos (by omega) (by omega)
  by_cases h5 : 64 < m
  · have h5' : 64 < (m : Int) := by omega
    clear hm
    go_enter Try.func4, Try.ntmps4
    go_wp2_with (first
        | (go_at_call 5; ((with_reducible refine (HA.out _).mono ?_); rintro e v ⟨rfl, hb⟩; have HX := Lib.hid (bel0 HB.out hb); have TX := Lib.hid (block_below T.out hb); clear HB T c0 c1 c2 hb; have HB := HX; have T := TX; clear HX TX; obtain ⟨⟨c0, c1, c2⟩, _⟩ := three_of_blockD T.out))
        | fail)
    go_ret
    exact ⟨by first | rfl | simp, HB.out⟩
  have h5' : (m : Int) ≤ 64 := by omega
  have HG := Lib.hid (fun V => gcdB x y V (by omega) (by omega))
  by_cases h6 : Nat.gcd x y = 1
  · rw [h6] at HG
    have h6' := Lib.hid h6
    clear h6
    by_cases h7 : ckV N W D = 0
    · obtain ⟨⟨n1, n2⟩, _⟩ := ckV_ok h7
      obtain ⟨n, rfl⟩ : ∃ n : Nat, N = n := ⟨N.toNat, by omega⟩
      have HX1 := Lib.hid (fun V => cosets_len n x W D V h7 (by omega) (by omega))
      have HX2 := Lib.hid (fun V => cosets_len n y W D V h7 (by omega) (by omega))
      have HX3 := Lib.hid (fun V => cosets_len n m W D V h7 (by omega) (by omega))
      have hmu : csS n m m = csS n x x * csS n y y := by rw [hm]; exact cs_mul (by omega) (by omega) (by omega) (by omega) (by rw [← hm]; omega) h6'.out
      have hpq : ((csS n x x : Nat) : Int) * ((csS n y y : Nat) : Int) = ((csS n m m : Nat) : Int) := by rw [hmu, Int.natCast_mul]
      have b1 := cs_bd (N := n) (show x ≤ 128 by omega)
      have b2 := cs_bd (N := n) (show y ≤ 128 by omega)
      have b3 := cs_bd (N := n) (show m ≤ 128 by omega)
      have HPr := Lib.hid (fun V => prime64 x V (by omega) (by omega))
      have hp : pB x = true → csS n x x = if n % x = 0 then x else x + 1 := fun h => by
        unfold pB at h
        rw [Bool.and_eq_true, decide_eq_true_eq, decide_eq_true_eq] at h
        exact cs_prime (by omega) (by omega) h.1 (by omega) h.2
      have hx0 : ((x : Int) == 0) = false := by rw [beq_eq_false_iff_ne]; omega
      clear h7 hmu hm h6'
      generalize csS n x x = p at *
      generalize csS n y y = q at *
      generalize csS n m m = r at *
      have i1 : (p : Int) ≤ 17000 := by omega
      have i2 : (q : Int) ≤ 17000 := by omega
      have i3 : (r : Int) ≤ 17000 := by omega
      by_cases hd : n % x = 0
      · rw [if_pos hd] at hp
        have hd2 : ((n : Int) % (x : Int) == 0) = true := by rw [beq_iff_eq, ← Int.natCast_emod, hd]; rfl
        clear hd
        cases hpb : pB x with
        | true =>
          obtain rfl : p = x := hp hpb
          rw [hpb] at HPr
          clear hp hpb
          go_enter Try.func4, Try.ntmps4
          go_wp2_with (first
              | (go_at_call 5; ((with_reducible refine (HA.out _).mono ?_); rintro e v ⟨rfl, hb⟩; have HX := Lib.hid (bel0 HB.out hb); have TX := Lib.hid (block_below T.out hb); clear HB T c0 c1 c2 hb; have HB := HX; have T := TX; clear HX TX; obtain ⟨⟨c0, c1, c2⟩, _⟩ := three_of_blockD T.out))
              | (go_at_call 10; ((with_reducible refine (HG.out _).mono ?_); rintro e v ⟨rfl, hb⟩; have HX := Lib.hid (bel0 HB.out hb); have TX := Lib.hid (block_below T.out hb); clear HB T c0 c1 c2 hb; have HB := HX; have T := TX; clear HX TX; obtain ⟨⟨c0, c1, c2⟩, _⟩ := three_of_blockD T.out))
              | (go_at_call 6; ((with_reducible refine (HX1.out _).mono ?_); rintro e v ⟨A1, k1, B1, l1, rfl, hb⟩; have HX := Lib.hid (bel0 HB.out hb); have TX := Lib.hid (block_below T.out hb); clear HB T c0 c1 c2 hb; have HB := HX; have T := TX; clear HX TX; obtain ⟨⟨c0, c1, c2⟩, _⟩ := three_of_blockD T.out))
              | (go_at_call 6; ((with_reducible refine (HX2.out _).mono ?_); rintro e v ⟨A2, k2, B2, l2, rfl, hb⟩; have HX := Lib.hid (bel0 HB.out hb); have TX := Lib.hid (block_below T.out hb); clear HB T c0 c1 c2 hb; have HB := HX; have T := TX; clear HX TX; obtain ⟨⟨c0, c1, c2⟩, _⟩ := three_of_blockD T.out))
              | (go_at_call 6; ((with_reducible refine (HX3.out _).mono ?_); rintro e v ⟨A3, k3, B3, l3, rfl, hb⟩; have HX := Lib.hid (bel0 HB.out hb); have TX := Lib.hid (block_below T.out hb); clear HB T c0 c1 c2 hb; have HB := HX; have T := TX; clear HX TX; obtain ⟨⟨c0, c1, c2⟩, _⟩ := three_of_blockD T.out))
              | (go_at_call 11; ((with_reducible refine (HPr.out _).mono ?_); rintro e v ⟨rfl, rfl⟩))
              | fail)
          go_ret
          exact ⟨by first | rfl | simp, HB.out⟩
        | false =>
          rw [hpb] at HPr
          clear hp hpb
          go_enter Try.func4, Try.ntmps4
          go_wp2_with (first
              | (go_at_call 5; ((with_reducible refine (HA.out _).mono ?_); rintro e v ⟨rfl, hb⟩; have HX := Lib.hid (bel0 HB.out hb); have TX := Lib.hid (block_below T.out hb); clear HB T c0 c1 c2 hb; have HB := HX; have T := TX; clear HX TX; obtain ⟨⟨c0, c1, c2⟩, _⟩ := three_of_blockD T.out))
              | (go_at_call 10; ((with_reducible refine (HG.out _).mono ?_); rintro e v ⟨rfl, hb⟩; have HX := Lib.hid (bel0 HB.out hb); have TX := Lib.hid (block_below T.out hb); clear HB T c0 c1 c2 hb; have HB := HX; have T := TX; clear HX TX; obtain ⟨⟨c0, c1, c2⟩, _⟩ := three_of_blockD T.out))
              | (go_at_call 6; ((with_reducible refine (HX1.out _).mono ?_); rintro e v ⟨A1, k1, B1, l1, rfl, hb⟩; have HX := Lib.hid (bel0 HB.out hb); have TX := Lib.hid (block_below T.out hb); clear HB T c0 c1 c2 hb; have HB := HX; have T := TX; clear HX TX; obtain ⟨⟨c0, c1, c2⟩, _⟩ := three_of_blockD T.out))
              | (go_at_call 6; ((with_reducible refine (HX2.out _).mono ?_); rintro e v ⟨A2, k2, B2, l2, rfl, hb⟩; have HX := Lib.hid (bel0 HB.out hb); have TX := Lib.hid (block_below T.out hb); clear HB T c0 c1 c2 hb; have HB := HX; have T := TX; clear HX TX; obtain ⟨⟨c0, c1, c2⟩, _⟩ := three_of_blockD T.out))
              | (go_at_call 6; ((with_reducible refine (HX3.out _).mono ?_); rintro e v ⟨A3, k3, B3, l3, rfl, hb⟩; have HX := Lib.hid (bel0 HB.out hb); have TX := Lib.hid (block_below T.out hb); clear HB T c0 c1 c2 hb; have HB := HX; have T := TX; clear HX TX; obtain ⟨⟨c0, c1, c2⟩, _⟩ := three_of_blockD T.out))
              | (go_at_call 11; ((with_reducible refine (HPr.out _).mono ?_); rintro e v ⟨rfl, rfl⟩))
              | fail)
          go_ret
          exact ⟨by first | rfl | simp, HB.out⟩
      · rw [if_neg hd] at hp
        have hd2 : ((n : Int) % (x : Int) == 0) = false := by rw [beq_eq_false_iff_ne, ← Int.natCast_emod]; omega
        clear hd
        cases hpb : pB x with
        | true =>
          have hpx : p = x + 1 := hp hpb
          have hpe : ((p : Int) == (x : Int) + 1) = true := by rw [beq_iff_eq]; omega
          clear hpx
          rw [hpb] at HPr
          clear hp hpb
          go_enter Try.func4, Try.ntmps4
          go_wp2_with (first
              | (go_at_call 5; ((with_reducible refine (HA.out _).mono ?_); rintro e v ⟨rfl, hb⟩; have HX := Lib.hid (bel0 HB.out hb); have TX := Lib.hid (block_below T.out hb); clear HB T c0 c1 c2 hb; have HB := HX; have T := TX; clear HX TX; obtain ⟨⟨c0, c1, c2⟩, _⟩ := three_of_blockD T.out))
              | (go_at_call 10; ((with_reducible refine (HG.out _).mono ?_); rintro e v ⟨rfl, hb⟩; have HX := Lib.hid (bel0 HB.out hb); have TX := Lib.hid (block_below T.out hb); clear HB T c0 c1 c2 hb; have HB := HX; have T := TX; clear HX TX; obtain ⟨⟨c0, c1, c2⟩, _⟩ := three_of_blockD T.out))
              | (go_at_call 6; ((with_reducible refine (HX1.out _).mono ?_); rintro e v ⟨A1, k1, B1, l1, rfl, hb⟩; have HX := Lib.hid (bel0 HB.out hb); have TX := Lib.hid (block_below T.out hb); clear HB T c0 c1 c2 hb; have HB := HX; have T := TX; clear HX TX; obtain ⟨⟨c0, c1, c2⟩, _⟩ := three_of_blockD T.out))
              | (go_at_call 6; ((with_reducible refine (HX2.out _).mono ?_); rintro e v ⟨A2, k2, B2, l2, rfl, hb⟩; have HX := Lib.hid (bel0 HB.out hb); have TX := Lib.hid (block_below T.out hb); clear HB T c0 c1 c2 hb; have HB := HX; have T := TX; clear HX TX; obtain ⟨⟨c0, c1, c2⟩, _⟩ := three_of_blockD T.out))
              | (go_at_call 6; ((with_reducible refine (HX3.out _).mono ?_); rintro e v ⟨A3, k3, B3, l3, rfl, hb⟩; have HX := Lib.hid (bel0 HB.out hb); have TX := Lib.hid (block_below T.out hb); clear HB T c0 c1 c2 hb; have HB := HX; have T := TX; clear HX TX; obtain ⟨⟨c0, c1, c2⟩, _⟩ := three_of_blockD T.out))
              | (go_at_call 11; ((with_reducible refine (HPr.out _).mono ?_); rintro e v ⟨rfl, rfl⟩))
              | fail)
          go_ret
          exact ⟨by first | rfl | simp, HB.out⟩
        | false =>
          rw [hpb] at HPr
          clear hp hpb
          go_enter Try.func4, Try.ntmps4
          go_wp2_with (first
              | (go_at_call 5; ((with_reducible refine (HA.out _).mono ?_); rintro e v ⟨rfl, hb⟩; have HX := Lib.hid (bel0 HB.out hb); have TX := Lib.hid (block_below T.out hb); clear HB T c0 c1 c2 hb; have HB := HX; have T := TX; clear HX TX; obtain ⟨⟨c0, c1, c2⟩, _⟩ := three_of_blockD T.out))
              | (go_at_call 10; ((with_reducible refine (HG.out _).mono ?_); rintro e v ⟨rfl, hb⟩; have HX := Lib.hid (bel0 HB.out hb); have TX := Lib.hid (block_below T.out hb); clear HB T c0 c1 c2 hb; have HB := HX; have T := TX; clear HX TX; obtain ⟨⟨c0, c1, c2⟩, _⟩ := three_of_blockD T.out))
              | (go_at_call 6; ((with_reducible refine (HX1.out _).mono ?_); rintro e v ⟨A1, k1, B1, l1, rfl, hb⟩; have HX := Lib.hid (bel0 HB.out hb); have TX := Lib.hid (block_below T.out hb); clear HB T c0 c1 c2 hb; have HB := HX; have T := TX; clear HX TX; obtain ⟨⟨c0, c1, c2⟩, _⟩ := three_of_blockD T.out))
              | (go_at_call 6; ((with_reducible refine (HX2.out _).mono ?_); rintro e v ⟨A2, k2, B2, l2, rfl, hb⟩; have HX := Lib.hid (bel0 HB.out hb); have TX := Lib.hid (block_below T.out hb); clear HB T c0 c1 c2 hb; have HB := HX; have T := TX; clear HX TX; obtain ⟨⟨c0, c1, c2⟩, _⟩ := three_of_blockD T.out))
              | (go_at_call 6; ((with_reducible refine (HX3.out _).mono ?_); rintro e v ⟨A3, k3, B3, l3, rfl, hb⟩; have HX := Lib.hid (bel0 HB.out hb); have TX := Lib.hid (block_below T.out hb); clear HB T c0 c1 c2 hb; have HB := HX; have T := TX; clear HX TX; obtain ⟨⟨c0, c1, c2⟩, _⟩ := three_of_blockD T.out))
              | (go_at_call 11; ((with_reducible refine (HPr.out _).mono ?_); rintro e v ⟨rfl, rfl⟩))
              | fail)
          go_ret
          exact ⟨by first | rfl | simp, HB.out⟩
    · have HC := Lib.hid (fun (z : Int) (V : World) => cosets_bad N W D z (ckV N W D) V rfl h7)
      have hk1 : (ckV N W D != 0) = true := by rw [bne_iff_ne]; exact h7
      clear h7 hm
      generalize ckV N W D = k at *
      go_enter Try.func4, Try.ntmps4
      go_wp2_with (first
          | (go_at_call 5; ((with_reducible refine (HA.out _).mono ?_); rintro e v ⟨rfl, hb⟩; have HX := Lib.hid (bel0 HB.out hb); have TX := Lib.hid (block_below T.out hb); clear HB T c0 c1 c2 hb; have HB := HX; have T := TX; clear HX TX; obtain ⟨⟨c0, c1, c2⟩, _⟩ := three_of_blockD T.out))
          | (go_at_call 10; ((with_reducible refine (HG.out _).mono ?_); rintro e v ⟨rfl, hb⟩; have HX := Lib.hid (bel0 HB.out hb); have TX := Lib.hid (block_below T.out hb); clear HB T c0 c1 c2 hb; have HB := HX; have T := TX; clear HX TX; obtain ⟨⟨c0, c1, c2⟩, _⟩ := three_of_blockD T.out))
          | (go_at_call 6; ((with_reducible refine (HC.out _ _).mono ?_); rintro e v ⟨rfl, hb⟩; have HX := Lib.hid (bel0 HB.out hb); have TX := Lib.hid (block_below T.out hb); clear HB T c0 c1 c2 hb; have HB := HX; have T := TX; clear HX TX; obtain ⟨⟨c0, c1, c2⟩, _⟩ := three_of_blockD T.out))
          | fail)
      go_ret
      exact ⟨by first | rfl | simp, HB.out⟩
  · have hg2 : (((Nat.gcd x y : Nat) : Int) != 1) = true := by rw [bne_iff_ne]; omega
    clear h6 hm
    generalize Nat.gcd x y = g at *
    go_enter Try.func4, Try.ntmps4
    go_wp2_with (first
        | (go_at_call 5; ((with_reducible refine (HA.out _).mono ?_); rintro e v ⟨rfl, hb⟩; have HX := Lib.hid (bel0 HB.out hb); have TX := Lib.hid (block_below T.out hb); clear HB T c0 c1 c2 hb; have HB := HX; have T := TX; clear HX TX; obtain ⟨⟨c0, c1, c2⟩, _⟩ := three_of_blockD T.out))
        | (go_at_call 10; ((with_reducible refine (HG.out _).mono ?_); rintro e v ⟨rfl, hb⟩; have HX := Lib.hid (bel0 HB.out hb); have TX := Lib.hid (block_below T.out hb); clear HB T c0 c1 c2 hb; have HB := HX; have T := TX; clear HX TX; obtain ⟨⟨c0, c1, c2⟩, _⟩ := three_of_blockD T.out))
        | fail)
    go_ret
    exact ⟨by first | rfl | simp, HB.out⟩
end Go.Proofs.Ythkhdbngeifenaa
