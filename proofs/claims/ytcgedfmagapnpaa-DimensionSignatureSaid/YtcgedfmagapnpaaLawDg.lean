/- DimensionGenus, DimensionLevelOne, DimensionSignature. -/
import Derived.Test.YtcgedfmagapnpaaLawDa
namespace Go.Proofs.Ytcgedfmagapnpaa
open Go.RowKit
set_option linter.unusedVariables false
set_option linter.unusedSimpArgs false

set_option maxHeartbeats 3200000 in
set_option maxRecDepth 1000000 in
theorem count0_bad (n : Int) (w : World) (hn : n < 1 ∨ 120 < n) :
    Calls Try.prog 50 #[.int .i64 n] w fun e w' => e = .returned (.tuple #[.int .i64 0, .int .i64 2]) ∧ Below w.heap.size w w' := by
  have HCk := Lib.hid (fun W => check0_any n W)
  rw [lv_no hn] at HCk
  go_enter Try.func50, Try.ntmps50
  go_wp2_with (first
    | (go_at_call 81; ((with_reducible refine (HCk.out _).mono ?_); rintro e w' ⟨rfl, rfl⟩))
    | fail)
  go_ret2
  exact ⟨rfl, Below.refl _ _⟩
set_option maxHeartbeats 3200000 in
set_option maxRecDepth 1000000 in
theorem formula0_bad (n : Int) (w : World) (hn : n < 1 ∨ 120 < n) :
    Calls Try.prog 23 #[.int .i64 n] w fun e w' => e = .returned (.tuple #[.agg #[.int .i64 0, .int .i64 0, .int .i64 0, .int .i64 0, .int .i64 0, .int .i64 0, .bool false], .int .i64 2]) ∧ Below w.heap.size w w' := by
  have HCu := Lib.hid (fun W => count0_bad n W hn)
  have T0 : Hid ((w.alloc (.cells #[.int .i64 0, .int .i64 0, .int .i64 0, .int .i64 0, .int .i64 0, .int .i64 0, .bool false] 32)).heap[w.heap.size]? = some (.cells #[.int .i64 0, .int .i64 0, .int .i64 0, .int .i64 0, .int .i64 0, .int .i64 0, .bool false] 32 (0, 0))) := heap_alloc_new w _
  have HB0 : Hid (Below w.heap.size w (w.alloc (.cells #[.int .i64 0, .int .i64 0, .int .i64 0, .int .i64 0, .int .i64 0, .int .i64 0, .bool false] 32))) := below1 w _
  clear hn
  go_enter Try.func23, Try.ntmps23
  go_wp2_with (first
    | (go_at_call 50; ((with_reducible refine (HCu.out _).mono ?_); rintro e w1 ⟨rfl, hb⟩; have HB1 := Lib.hid (bel0 HB0.out hb); have T1 := Lib.hid (block_below T0.out hb); obtain ⟨⟨t0, t1, t2, t3, t4, t5, t6⟩, _⟩ := seven_of_block T1.out; clear hb))
    | fail)
  obtain ⟨⟨s0, s1, s2, s3, s4, s5, s6⟩, _⟩ := seven_of_block (seven_set T1.out (.int .i64 0) (.int .i64 0) (.int .i64 0) (.int .i64 0) (.int .i64 0) (.int .i64 0) (.bool false))
  refine bodyPost_ret (v := .tuple #[.agg #[.int .i64 0, .int .i64 0, .int .i64 0, .int .i64 0, .int .i64 0, .int .i64 0, .bool false], .int .i64 2]) ?_ rfl ⟨rfl, seven_bel HB1.out _ _ _ _ _ _ _⟩
  simp [results, Try.results23, go_sem, s0, s1, s2, s3, s4, s5, s6]
def dgOk (n : Nat) : Bool :=
  decide (ckV (n : Int) 2 1 = 0) && decide ((lamP n 1 : Int) = (cuV n : Nat)) && decide (s4 n 1 n = 2 * rtV 4 4 n) && decide (s3 n 1 n = 2 * rtV 3 9 n) && decide (12 * g0V n = 12 + (psV n : Int) - 3 * rtV 4 4 n - 4 * rtV 3 9 n - 6 * (cuV n : Int)) && decide (0 ≤ g0V n ∧ g0V n ≤ 10000) && decide (0 ≤ rtV 4 4 n ∧ rtV 4 4 n ≤ 10000) && decide (0 ≤ rtV 3 9 n ∧ rtV 3 9 n ≤ 10000) && decide ((cuV n : Int) ≤ 10000)
set_option maxRecDepth 100000 in
theorem dg_all : (List.range 120).all (fun i => dgOk (i + 1)) = true := by decide +kernel
structure DG (n : Nat) : Prop where
  ck : ckV (n : Int) 2 1 = 0
  la : (lamP n 1 : Int) = (cuV n : Nat)
  x4 : s4 n 1 n = 2 * rtV 4 4 n
  x3 : s3 n 1 n = 2 * rtV 3 9 n
  gg : 12 * g0V n = 12 + (psV n : Int) - 3 * rtV 4 4 n - 4 * rtV 3 9 n - 6 * (cuV n : Int)
  g : 0 ≤ g0V n ∧ g0V n ≤ 10000
  r4 : 0 ≤ rtV 4 4 n ∧ rtV 4 4 n ≤ 10000
  r3 : 0 ≤ rtV 3 9 n ∧ rtV 3 9 n ≤ 10000
  c : (cuV n : Int) ≤ 10000
theorem dg_of {n : Nat} (n1 : 1 ≤ n) (n2 : n ≤ 120) : DG n := by
  have h := List.all_eq_true.1 dg_all (n - 1) (List.mem_range.2 (by omega))
  rw [show n - 1 + 1 = n by omega] at h
  unfold dgOk at h
  simp only [Bool.and_eq_true, decide_eq_true_eq] at h
  obtain ⟨⟨⟨⟨⟨⟨⟨⟨a, b⟩, c⟩, d⟩, e⟩, f⟩, g⟩, i⟩, j⟩ := h
  exact ⟨a, b, c, d, e, f, g, i, j⟩
theorem tdiv24 {x y : Int} (h : x = 24 * y) : x.tdiv 24 = y := by rw [h]; exact Int.mul_tdiv_cancel_left _ (by decide)
/-- The dimension of the cusp forms of an even weight is that of the signature of Gamma0. -/
theorem cp_sc {n k : Nat} (n1 : 1 ≤ n) (n2 : n ≤ 120) (k1 : 2 ≤ k) (k2 : k ≤ 24) (he : k % 2 = 0) : cpV n k 1 = scV (g0V n) (rtV 4 4 n) (rtV 3 9 n) (cuV n : Nat) 0 k ∧ eiV n k 1 = seV (cuV n : Nat) 0 k := by
  have h := dg_of n1 n2
  have h1 := h.la
  have h2 := h.x4
  have h3 := h.x3
  have h4 := h.gg
  clear h
  unfold cpV cpF eiV
  rw [show Int.natAbs 1 = 1 from rfl, h2, h3, h1]
  generalize g0V n = g at *
  generalize rtV 4 4 n = a at *
  generalize rtV 3 9 n = b at *
  generalize ((cuV n : Nat) : Int) = c at *
  generalize ((psV n : Nat) : Int) = p at *
  have hk : k = 2 ∨ k = 4 ∨ k = 6 ∨ k = 8 ∨ k = 10 ∨ k = 12 ∨ k = 14 ∨ k = 16 ∨ k = 18 ∨ k = 20 ∨ k = 22 ∨ k = 24 := by omega
  rcases hk with rfl | rfl | rfl | rfl | rfl | rfl | rfl | rfl | rfl | rfl | rfl | rfl
  · have e4 : f4K 2 = -3 := rfl
    have e3 : f3K 2 = -4 := rfl
    have ex : exK 2 1 = 1 := rfl
    have es : scV g a b c 0 ((2 : Nat) : Int) = g := rfl
    have ee : seV c 0 ((2 : Nat) : Int) = c - 1 := rfl
    rw [e4, e3, ex, es, ee]
    exact ⟨tdiv24 (by omega), by omega⟩
  · have e4 : f4K 4 = 3 := rfl
    have e3 : f3K 4 = 0 := rfl
    have ex : exK 4 1 = 0 := rfl
    have es : scV g a b c 0 ((4 : Nat) : Int) = 3 * (g - 1) + 1 * a + 1 * b + 1 * c := by unfold scV; rw [if_neg (by decide), if_pos (by decide)]; rfl
    have ee : seV c 0 ((4 : Nat) : Int) = c := by unfold seV; rw [if_neg (by decide), if_pos (by decide)]
    rw [e4, e3, ex, es, ee]
    exact ⟨tdiv24 (by omega), by omega⟩
  · have e4 : f4K 6 = -3 := rfl
    have e3 : f3K 6 = 4 := rfl
    have ex : exK 6 1 = 0 := rfl
    have es : scV g a b c 0 ((6 : Nat) : Int) = 5 * (g - 1) + 1 * a + 2 * b + 2 * c := by unfold scV; rw [if_neg (by decide), if_pos (by decide)]; rfl
    have ee : seV c 0 ((6 : Nat) : Int) = c := by unfold seV; rw [if_neg (by decide), if_pos (by decide)]
    rw [e4, e3, ex, es, ee]
    exact ⟨tdiv24 (by omega), by omega⟩
  · have e4 : f4K 8 = 3 := rfl
    have e3 : f3K 8 = -4 := rfl
    have ex : exK 8 1 = 0 := rfl
    have es : scV g a b c 0 ((8 : Nat) : Int) = 7 * (g - 1) + 2 * a + 2 * b + 3 * c := by unfold scV; rw [if_neg (by decide), if_pos (by decide)]; rfl
    have ee : seV c 0 ((8 : Nat) : Int) = c := by unfold seV; rw [if_neg (by decide), if_pos (by decide)]
    rw [e4, e3, ex, es, ee]
    exact ⟨tdiv24 (by omega), by omega⟩
  · have e4 : f4K 10 = -3 := rfl
    have e3 : f3K 10 = 0 := rfl
    have ex : exK 10 1 = 0 := rfl
    have es : scV g a b c 0 ((10 : Nat) : Int) = 9 * (g - 1) + 2 * a + 3 * b + 4 * c := by unfold scV; rw [if_neg (by decide), if_pos (by decide)]; rfl
    have ee : seV c 0 ((10 : Nat) : Int) = c := by unfold seV; rw [if_neg (by decide), if_pos (by decide)]
    rw [e4, e3, ex, es, ee]
    exact ⟨tdiv24 (by omega), by omega⟩
  · have e4 : f4K 12 = 3 := rfl
    have e3 : f3K 12 = 4 := rfl
    have ex : exK 12 1 = 0 := rfl
    have es : scV g a b c 0 ((12 : Nat) : Int) = 11 * (g - 1) + 3 * a + 4 * b + 5 * c := by unfold scV; rw [if_neg (by decide), if_pos (by decide)]; rfl
    have ee : seV c 0 ((12 : Nat) : Int) = c := by unfold seV; rw [if_neg (by decide), if_pos (by decide)]
    rw [e4, e3, ex, es, ee]
    exact ⟨tdiv24 (by omega), by omega⟩
  · have e4 : f4K 14 = -3 := rfl
    have e3 : f3K 14 = -4 := rfl
    have ex : exK 14 1 = 0 := rfl
    have es : scV g a b c 0 ((14 : Nat) : Int) = 13 * (g - 1) + 3 * a + 4 * b + 6 * c := by unfold scV; rw [if_neg (by decide), if_pos (by decide)]; rfl
    have ee : seV c 0 ((14 : Nat) : Int) = c := by unfold seV; rw [if_neg (by decide), if_pos (by decide)]
    rw [e4, e3, ex, es, ee]
    exact ⟨tdiv24 (by omega), by omega⟩
  · have e4 : f4K 16 = 3 := rfl
    have e3 : f3K 16 = 0 := rfl
    have ex : exK 16 1 = 0 := rfl
    have es : scV g a b c 0 ((16 : Nat) : Int) = 15 * (g - 1) + 4 * a + 5 * b + 7 * c := by unfold scV; rw [if_neg (by decide), if_pos (by decide)]; rfl
    have ee : seV c 0 ((16 : Nat) : Int) = c := by unfold seV; rw [if_neg (by decide), if_pos (by decide)]
    rw [e4, e3, ex, es, ee]
    exact ⟨tdiv24 (by omega), by omega⟩
  · have e4 : f4K 18 = -3 := rfl
    have e3 : f3K 18 = 4 := rfl
    have ex : exK 18 1 = 0 := rfl
    have es : scV g a b c 0 ((18 : Nat) : Int) = 17 * (g - 1) + 4 * a + 6 * b + 8 * c := by unfold scV; rw [if_neg (by decide), if_pos (by decide)]; rfl
    have ee : seV c 0 ((18 : Nat) : Int) = c := by unfold seV; rw [if_neg (by decide), if_pos (by decide)]
    rw [e4, e3, ex, es, ee]
    exact ⟨tdiv24 (by omega), by omega⟩
  · have e4 : f4K 20 = 3 := rfl
    have e3 : f3K 20 = -4 := rfl
    have ex : exK 20 1 = 0 := rfl
    have es : scV g a b c 0 ((20 : Nat) : Int) = 19 * (g - 1) + 5 * a + 6 * b + 9 * c := by unfold scV; rw [if_neg (by decide), if_pos (by decide)]; rfl
    have ee : seV c 0 ((20 : Nat) : Int) = c := by unfold seV; rw [if_neg (by decide), if_pos (by decide)]
    rw [e4, e3, ex, es, ee]
    exact ⟨tdiv24 (by omega), by omega⟩
  · have e4 : f4K 22 = -3 := rfl
    have e3 : f3K 22 = 0 := rfl
    have ex : exK 22 1 = 0 := rfl
    have es : scV g a b c 0 ((22 : Nat) : Int) = 21 * (g - 1) + 5 * a + 7 * b + 10 * c := by unfold scV; rw [if_neg (by decide), if_pos (by decide)]; rfl
    have ee : seV c 0 ((22 : Nat) : Int) = c := by unfold seV; rw [if_neg (by decide), if_pos (by decide)]
    rw [e4, e3, ex, es, ee]
    exact ⟨tdiv24 (by omega), by omega⟩
  · have e4 : f4K 24 = 3 := rfl
    have e3 : f3K 24 = 4 := rfl
    have ex : exK 24 1 = 0 := rfl
    have es : scV g a b c 0 ((24 : Nat) : Int) = 23 * (g - 1) + 6 * a + 8 * b + 11 * c := by unfold scV; rw [if_neg (by decide), if_pos (by decide)]; rfl
    have ee : seV c 0 ((24 : Nat) : Int) = c := by unfold seV; rw [if_neg (by decide), if_pos (by decide)]
    rw [e4, e3, ex, es, ee]
    exact ⟨tdiv24 (by omega), by omega⟩
set_option maxHeartbeats 6400000 in
set_option maxRecDepth 1000000 in
theorem dgn_walk (N : Int) (w : World) : Calls Try.prog 5 #[.int .i64 N] w fun e w' => e = .returned (.bool true) ∧ Below w.heap.size w w' := by
  have HA := Lib.hid awake_any
  by_cases hN : N < 1 ∨ 120 < N
  · have hck : ckV N 2 1 = 2 := by unfold ckV; rw [if_pos (by omega)]
    have H1 := Lib.hid (fun V => cusp_bad N 2 1 V (by rw [hck]; decide))
    have H2 := Lib.hid (fun V => eis_bad N 2 1 V (by rw [hck]; decide))
    rw [hck] at H1 H2
    have HF := Lib.hid (fun V => formula0_bad N V hN)
    clear hck hN
    go_enter Try.func5, Try.ntmps5
    go_wp2_with (first
      | (go_at_call 11; ((with_reducible refine (HA.out _).mono ?_); rintro e v0 ⟨rfl, hb⟩; have HB1 : Hid (Below w.heap.size w (v0.alloc (.cells #[.int .i64 N, .int .i64 2, .int .i64 1] 23))) := Below.alloc hb hb.size _; have T1 : Hid ((v0.alloc (.cells #[.int .i64 N, .int .i64 2, .int .i64 1] 23)).heap[v0.heap.size]? = some (.cells #[.int .i64 N, .int .i64 2, .int .i64 1] 23 (0, 0))) := heap_alloc_new v0 _; obtain ⟨⟨c0, c1, c2⟩, _⟩ := three_of_blockD T1.out; clear hb))
      | (go_at_call 16; ((with_reducible refine (H1.out _).mono ?_); rintro e v2 ⟨rfl, hb⟩; have HB2 := Lib.hid (bel0 HB1.out hb); have T2 := Lib.hid (block_below T1.out hb); clear c0 c1 c2; obtain ⟨⟨c0, c1, c2⟩, _⟩ := three_of_blockD T2.out; clear hb))
      | (go_at_call 17; ((with_reducible refine (H2.out _).mono ?_); rintro e v3 ⟨rfl, hb⟩; have HB3 := Lib.hid (bel0 HB2.out hb); have T3 := Lib.hid (block_below T2.out hb); clear c0 c1 c2; obtain ⟨⟨c0, c1, c2⟩, _⟩ := three_of_blockD T3.out; clear hb))
      | (go_at_call 23; ((with_reducible refine (HF.out _).mono ?_); rintro e v4 ⟨rfl, hb⟩; have HB4 : Hid (Below w.heap.size w (v4.alloc (.cells #[.int .i64 0, .int .i64 0, .int .i64 0, .int .i64 0, .int .i64 0, .int .i64 0, .bool false] 32))) := Below.alloc (bel0 HB3.out hb) (bel0 HB3.out hb).size _; have U4 : Hid ((v4.alloc (.cells #[.int .i64 0, .int .i64 0, .int .i64 0, .int .i64 0, .int .i64 0, .int .i64 0, .bool false] 32)).heap[v4.heap.size]? = some (.cells #[.int .i64 0, .int .i64 0, .int .i64 0, .int .i64 0, .int .i64 0, .int .i64 0, .bool false] 32 (0, 0))) := heap_alloc_new v4 _; obtain ⟨⟨s0, s1, s2, s3, s4, s5, s6⟩, _⟩ := seven_of_block U4.out; clear hb))
      | fail)
    go_ret
    exact ⟨rfl, HB4.out⟩
  · obtain ⟨n, rfl⟩ : ∃ n : Nat, N = n := ⟨N.toNat, by omega⟩
    have n1 : 1 ≤ n := by omega
    have n2 : (n : Int) ≤ 120 := by omega
    have hg := dg_of n1 (by omega)
    have hsc := cp_sc n1 (show n ≤ 120 by omega) (show 2 ≤ 2 by omega) (by omega) rfl
    have hs1 : scV (g0V n) (rtV 4 4 n) (rtV 3 9 n) (cuV n : Nat) 0 ((2 : Nat) : Int) = g0V n := rfl
    have hs2 : seV (cuV n : Nat) 0 ((2 : Nat) : Int) = (cuV n : Nat) - 1 := rfl
    have H1 := Lib.hid (fun V => cusp_ok n 2 1 V hg.ck)
    have H2 := Lib.hid (fun V => eis_ok n 2 1 V hg.ck)
    rw [hsc.1, hs1] at H1
    rw [hsc.2, hs2] at H2
    rw [show ((2 : Nat) : Int) = 2 from rfl] at H1 H2
    have HF := Lib.hid (fun V => formula0_any n V n1 n2)
    have hcu := hg.c
    clear hg hsc hs1 hs2 hN
    generalize psV n = ps at *
    generalize cuV n = cu at *
    generalize rtV 4 4 n = r4 at *
    generalize rtV 3 9 n = r3 at *
    generalize g0V n = gg at *
    go_enter Try.func5, Try.ntmps5
    go_wp2_with (first
      | (go_at_call 11; ((with_reducible refine (HA.out _).mono ?_); rintro e v0 ⟨rfl, hb⟩; have HB1 : Hid (Below w.heap.size w (v0.alloc (.cells #[.int .i64 (n : Int), .int .i64 2, .int .i64 1] 23))) := Below.alloc hb hb.size _; have T1 : Hid ((v0.alloc (.cells #[.int .i64 (n : Int), .int .i64 2, .int .i64 1] 23)).heap[v0.heap.size]? = some (.cells #[.int .i64 (n : Int), .int .i64 2, .int .i64 1] 23 (0, 0))) := heap_alloc_new v0 _; obtain ⟨⟨c0, c1, c2⟩, _⟩ := three_of_blockD T1.out; clear hb))
      | (go_at_call 16; ((with_reducible refine (H1.out _).mono ?_); rintro e v2 ⟨rfl, hb⟩; have HB2 := Lib.hid (bel0 HB1.out hb); have T2 := Lib.hid (block_below T1.out hb); clear c0 c1 c2; obtain ⟨⟨c0, c1, c2⟩, _⟩ := three_of_blockD T2.out; clear hb))
      | (go_at_call 17; ((with_reducible refine (H2.out _).mono ?_); rintro e v3 ⟨rfl, hb⟩; have HB3 := Lib.hid (bel0 HB2.out hb); have T3 := Lib.hid (block_below T2.out hb); clear c0 c1 c2; obtain ⟨⟨c0, c1, c2⟩, _⟩ := three_of_blockD T3.out; clear hb))
      | (go_at_call 23; ((with_reducible refine (HF.out _).mono ?_); rintro e v4 ⟨rfl, hb⟩; have HB4 : Hid (Below w.heap.size w (v4.alloc (.cells #[.int .i64 (ps : Int), .int .i64 gg, .int .i64 r4, .int .i64 r3, .int .i64 (cu : Int), .int .i64 0, .bool true] 32))) := Below.alloc (bel0 HB3.out hb) (bel0 HB3.out hb).size _; have U4 : Hid ((v4.alloc (.cells #[.int .i64 (ps : Int), .int .i64 gg, .int .i64 r4, .int .i64 r3, .int .i64 (cu : Int), .int .i64 0, .bool true] 32)).heap[v4.heap.size]? = some (.cells #[.int .i64 (ps : Int), .int .i64 gg, .int .i64 r4, .int .i64 r3, .int .i64 (cu : Int), .int .i64 0, .bool true] 32 (0, 0))) := heap_alloc_new v4 _; obtain ⟨⟨s0, s1, s2, s3, s4, s5, s6⟩, _⟩ := seven_of_block U4.out; clear hb))
      | fail)
    go_ret
    exact ⟨rfl, HB4.out⟩
set_option maxRecDepth 100000 in
theorem lo_all : (List.range 23).all (fun j => !(decide (ckV 1 ((j + 2 : Nat) : Int) 1 = 0)) || decide (cpV 1 (j + 2) 1 + eiV 1 (j + 2) 1 = if (j + 2) % 12 = 2 then (((j + 2) / 12 : Nat) : Int) else (((j + 2) / 12 : Nat) : Int) + 1)) = true := by decide +kernel
theorem lo_of {k : Nat} (k1 : 2 ≤ k) (k2 : k ≤ 24) (h : ckV 1 (k : Int) 1 = 0) : cpV 1 k 1 + eiV 1 k 1 = if k % 12 = 2 then ((k / 12 : Nat) : Int) else ((k / 12 : Nat) : Int) + 1 := by
  have h0 := List.all_eq_true.1 lo_all (k - 2) (List.mem_range.2 (by omega))
  rw [show k - 2 + 2 = k by omega] at h0
  simp only [h, decide_true, Bool.not_true, Bool.false_or, decide_eq_true_eq] at h0
  exact h0
theorem ck_one {k : Int} (h : ckV 1 k 1 ≠ 0) : ckV 1 k 1 = 2 ∨ (ckV 1 k 1 = 16 ∧ k % 2 ≠ 0) := by
  unfold ckV at h ⊢
  by_cases h1 : (1 : Int) < 1 ∨ 120 < (1 : Int) ∨ k < 2 ∨ 24 < k ∨ (1 : Int) < -120 ∨ 120 < (1 : Int)
  · left; rw [if_pos h1]
  · rw [if_neg h1] at h ⊢
    have hf : ¬ fdB 1 = false := by decide
    rw [if_neg hf, if_neg (by decide)] at h ⊢
    by_cases h2 : ¬ ((0 : Int) < 1 ↔ k % 2 = 0)
    · right; rw [if_pos h2]
      exact ⟨rfl, fun h3 => h2 ⟨fun _ => h3, fun _ => by decide⟩⟩
    · rw [if_neg h2] at h
      rw [if_neg] at h
      · exact absurd rfl h
      · have : (psV (Int.toNat 1) : Int) = 1 := rfl
        rw [this]; omega
set_option maxHeartbeats 6400000 in
set_option maxRecDepth 1000000 in
theorem dlo_walk (K : Int) (w : World) : Calls Try.prog 10 #[.int .i64 K] w fun e w' => e = .returned (.bool true) ∧ Below w.heap.size w w' := by
  have HA := Lib.hid awake_any
  by_cases h : ckV 1 K 1 = 0
  · obtain ⟨_, ⟨k1, k2⟩, _⟩ := ckV_ok h
    obtain ⟨k, rfl⟩ : ∃ k : Nat, K = k := ⟨K.toNat, by omega⟩
    have H1 := Lib.hid (fun V => mod_ok 1 k 1 V h)
    rw [lo_of (by omega) (by omega) h, show ((1 : Nat) : Int) = 1 from rfl] at H1
    have hd : (k : Int) / 12 = ((k / 12 : Nat) : Int) := (Int.natCast_ediv _ _).symm
    have hq : ((k / 12 : Nat) : Int) ≤ 2 := by omega
    clear h
    by_cases hm : k % 12 = 2
    · rw [if_pos hm] at H1
      have e1 : ((k : Int) % 12 == 2) = true := by rw [beq_iff_eq]; omega
      clear hm
      generalize k / 12 = q at *
      go_enter Try.func10, Try.ntmps10
      go_wp2_with (first
        | (go_at_call 11; ((with_reducible refine (HA.out _).mono ?_); rintro e v1 ⟨rfl, hb⟩; have HB1 := Lib.hid hb; clear hb))
        | (go_at_call 18; ((with_reducible refine (H1.out _).mono ?_); rintro e v2 ⟨rfl, hb⟩; have HB2 := Lib.hid (bel0 HB1.out hb); clear hb))
        | fail)
      go_ret
      exact ⟨rfl, HB2.out⟩
    · rw [if_neg hm] at H1
      have e1 : ((k : Int) % 12 == 2) = false := by rw [beq_eq_false_iff_ne]; omega
      clear hm
      generalize k / 12 = q at *
      go_enter Try.func10, Try.ntmps10
      go_wp2_with (first
        | (go_at_call 11; ((with_reducible refine (HA.out _).mono ?_); rintro e v1 ⟨rfl, hb⟩; have HB1 := Lib.hid hb; clear hb))
        | (go_at_call 18; ((with_reducible refine (H1.out _).mono ?_); rintro e v2 ⟨rfl, hb⟩; have HB2 := Lib.hid (bel0 HB1.out hb); clear hb))
        | fail)
      go_ret
      exact ⟨rfl, HB2.out⟩
  · have H1 := Lib.hid (fun V => mod_bad 1 K 1 V h)
    rcases ck_one h with h2 | ⟨h2, h3⟩
    · rw [h2] at H1
      clear h h2
      go_enter Try.func10, Try.ntmps10
      go_wp2_with (first
        | (go_at_call 11; ((with_reducible refine (HA.out _).mono ?_); rintro e v1 ⟨rfl, hb⟩; have HB1 := Lib.hid hb; clear hb))
        | (go_at_call 18; ((with_reducible refine (H1.out _).mono ?_); rintro e v2 ⟨rfl, hb⟩; have HB2 := Lib.hid (bel0 HB1.out hb); clear hb))
        | fail)
      go_ret
      exact ⟨rfl, HB2.out⟩
    · rw [h2] at H1
      have e1 : (K % 2 != 0) = true := by rw [bne_iff_ne]; exact h3
      have e2 : (K.tmod 2 != 0) = true := by rw [bne_iff_ne]; intro h4; exact h3 (Int.emod_eq_zero_of_dvd (Int.dvd_of_tmod_eq_zero h4))
      clear h h2 h3
      go_enter Try.func10, Try.ntmps10
      go_wp2_with (first
        | (go_at_call 11; ((with_reducible refine (HA.out _).mono ?_); rintro e v1 ⟨rfl, hb⟩; have HB1 := Lib.hid hb; clear hb))
        | (go_at_call 18; ((with_reducible refine (H1.out _).mono ?_); rintro e v2 ⟨rfl, hb⟩; have HB2 := Lib.hid (bel0 HB1.out hb); clear hb))
        | fail)
      go_ret
      exact ⟨rfl, HB2.out⟩
end Go.Proofs.Ytcgedfmagapnpaa
