/- DimensionSignature: the dimensions of the signature of Gamma0(N) are those of the space with the discriminant 1. -/
import Derived.Test.YtcgedfmagapnpaaLawDg
namespace Go.Proofs.Ytcgedfmagapnpaa
open Go.RowKit
set_option linter.unusedVariables false
set_option linter.unusedSimpArgs false

theorem sg0_ok {n k : Nat} (n1 : 1 ≤ n) (n2 : n ≤ 120) (k1 : 2 ≤ k) (k2 : k ≤ 24) (he : k % 2 = 0) : cksV (psV n : Nat) (g0V n) (rtV 4 4 n) (rtV 3 9 n) (cuV n : Nat) 0 true k = 0 := by
  have h := dg_of n1 n2
  have h1 := psV_le n1 n2
  have h2 := h.c
  unfold cksV isgB
  rw [if_neg (by omega), decide_eq_true (show 0 ≤ ((psV n : Nat) : Int) ∧ ((psV n : Nat) : Int) ≤ 10000 by omega), decide_eq_true h.g, decide_eq_true h.r4, decide_eq_true h.r3, decide_eq_true (show 0 ≤ ((cuV n : Nat) : Int) ∧ ((cuV n : Nat) : Int) ≤ 10000 by omega), decide_eq_true (show (0 : Int) ≤ ((cuV n : Nat) : Int) by omega), decide_eq_true h.gg, decide_eq_false (show ¬ (k : Int) % 2 = 1 by omega)]
  rfl
set_option maxHeartbeats 6400000 in
set_option maxRecDepth 1000000 in
theorem dsg_walk (N K : Int) (w : World) : Calls Try.prog 9 #[.int .i64 N, .int .i64 K] w fun e w' => e = .returned (.bool true) ∧ Below w.heap.size w w' := by
  have HA := Lib.hid awake_any
  by_cases h : ckV N K 1 = 0
  · obtain ⟨⟨n1', n2'⟩, ⟨k1, k2⟩, _, _, _, hp, _⟩ := ckV_ok h
    obtain ⟨n, rfl⟩ : ∃ n : Nat, N = n := ⟨N.toNat, by omega⟩
    obtain ⟨k, rfl⟩ : ∃ k : Nat, K = k := ⟨K.toNat, by omega⟩
    have he : k % 2 = 0 := by have := hp.1 (by decide); omega
    have n1 : 1 ≤ n := by omega
    have n2 : (n : Int) ≤ 120 := by omega
    have hsc := cp_sc n1 (show n ≤ 120 by omega) (show 2 ≤ k by omega) (by omega) he
    have hck := sg0_ok n1 (show n ≤ 120 by omega) (show 2 ≤ k by omega) (by omega) he
    have H1 := Lib.hid (fun V => cusp_ok n k 1 V h)
    have H2 := Lib.hid (fun V => mod_ok n k 1 V h)
    rw [hsc.1] at H1 H2
    rw [hsc.2] at H2
    have HF := Lib.hid (fun V => formula0_any n V n1 n2)
    have H3 := Lib.hid (fun V => csig_ok _ _ _ _ _ _ _ _ V hck)
    have H4 := Lib.hid (fun V => msig_ok _ _ _ _ _ _ _ _ V hck)
    clear h hsc hck hp he
    generalize psV n = ps at *
    generalize cuV n = cu at *
    generalize rtV 4 4 n = r4 at *
    generalize rtV 3 9 n = r3 at *
    generalize g0V n = gg at *
    generalize scV gg r4 r3 (cu : Nat) 0 k = x at *
    generalize seV (cu : Nat) 0 k = y at *
    go_enter Try.func9, Try.ntmps9
    go_wp2_with (first
      | (go_at_call 11; ((with_reducible refine (HA.out _).mono ?_); rintro e v0 ⟨rfl, hb⟩; have HB1 : Hid (Below w.heap.size w (v0.alloc (.cells #[.int .i64 (n : Int), .int .i64 (k : Int), .int .i64 1] 23))) := Below.alloc hb hb.size _; have T1 : Hid ((v0.alloc (.cells #[.int .i64 (n : Int), .int .i64 (k : Int), .int .i64 1] 23)).heap[v0.heap.size]? = some (.cells #[.int .i64 (n : Int), .int .i64 (k : Int), .int .i64 1] 23 (0, 0))) := heap_alloc_new v0 _; obtain ⟨⟨c0, c1, c2⟩, _⟩ := three_of_blockD T1.out; clear hb))
      | (go_at_call 16; ((with_reducible refine (H1.out _).mono ?_); rintro e v2 ⟨rfl, hb⟩; have HB2 := Lib.hid (bel0 HB1.out hb); have T2 := Lib.hid (block_below T1.out hb); clear c0 c1 c2; obtain ⟨⟨c0, c1, c2⟩, _⟩ := three_of_blockD T2.out; clear hb))
      | (go_at_call 18; ((with_reducible refine (H2.out _).mono ?_); rintro e v3 ⟨rfl, hb⟩; have HB3 := Lib.hid (bel0 HB2.out hb); have T3 := Lib.hid (block_below T2.out hb); clear c0 c1 c2; obtain ⟨⟨c0, c1, c2⟩, _⟩ := three_of_blockD T3.out; clear hb))
      | (go_at_call 23; ((with_reducible refine (HF.out _).mono ?_); rintro e v4 ⟨rfl, hb⟩; have HB4 : Hid (Below w.heap.size w (v4.alloc (.cells #[.int .i64 (ps : Int), .int .i64 gg, .int .i64 r4, .int .i64 r3, .int .i64 (cu : Int), .int .i64 0, .bool true] 32))) := Below.alloc (bel0 HB3.out hb) (bel0 HB3.out hb).size _; have U4 : Hid ((v4.alloc (.cells #[.int .i64 (ps : Int), .int .i64 gg, .int .i64 r4, .int .i64 r3, .int .i64 (cu : Int), .int .i64 0, .bool true] 32)).heap[v4.heap.size]? = some (.cells #[.int .i64 (ps : Int), .int .i64 gg, .int .i64 r4, .int .i64 r3, .int .i64 (cu : Int), .int .i64 0, .bool true] 32 (0, 0))) := heap_alloc_new v4 _; obtain ⟨⟨s0, s1, s2, s3, s4, s5, s6⟩, _⟩ := seven_of_block U4.out; clear hb))
      | (go_at_call 29; ((with_reducible refine (H3.out _).mono ?_); rintro e v5 ⟨rfl, hb⟩; have HB5 := Lib.hid (bel0 HB4.out hb); have U5 := Lib.hid (block_below U4.out hb); clear s0 s1 s2 s3 s4 s5 s6; obtain ⟨⟨s0, s1, s2, s3, s4, s5, s6⟩, _⟩ := seven_of_block U5.out; clear hb))
      | (go_at_call 30; ((with_reducible refine (H4.out _).mono ?_); rintro e v6 ⟨rfl, hb⟩; have HB6 := Lib.hid (bel0 HB5.out hb); have U6 := Lib.hid (block_below U5.out hb); clear s0 s1 s2 s3 s4 s5 s6; obtain ⟨⟨s0, s1, s2, s3, s4, s5, s6⟩, _⟩ := seven_of_block U6.out; clear hb))
      | fail)
    go_ret
    exact ⟨rfl, HB6.out⟩
  · have H1 := Lib.hid (fun V => cusp_bad N K 1 V h)
    have H2 := Lib.hid (fun V => mod_bad N K 1 V h)
    have hk1 : (ckV N K 1 != 0) = true := by rw [bne_iff_ne]; exact h
    clear h
    generalize ckV N K 1 = z at *
    go_enter Try.func9, Try.ntmps9
    go_wp2_with (first
      | (go_at_call 11; ((with_reducible refine (HA.out _).mono ?_); rintro e v0 ⟨rfl, hb⟩; have HB1 : Hid (Below w.heap.size w (v0.alloc (.cells #[.int .i64 N, .int .i64 K, .int .i64 1] 23))) := Below.alloc hb hb.size _; have T1 : Hid ((v0.alloc (.cells #[.int .i64 N, .int .i64 K, .int .i64 1] 23)).heap[v0.heap.size]? = some (.cells #[.int .i64 N, .int .i64 K, .int .i64 1] 23 (0, 0))) := heap_alloc_new v0 _; obtain ⟨⟨c0, c1, c2⟩, _⟩ := three_of_blockD T1.out; clear hb))
      | (go_at_call 16; ((with_reducible refine (H1.out _).mono ?_); rintro e v2 ⟨rfl, hb⟩; have HB2 := Lib.hid (bel0 HB1.out hb); have T2 := Lib.hid (block_below T1.out hb); clear c0 c1 c2; obtain ⟨⟨c0, c1, c2⟩, _⟩ := three_of_blockD T2.out; clear hb))
      | (go_at_call 18; ((with_reducible refine (H2.out _).mono ?_); rintro e v3 ⟨rfl, hb⟩; have HB3 := Lib.hid (bel0 HB2.out hb); have T3 := Lib.hid (block_below T2.out hb); clear c0 c1 c2; obtain ⟨⟨c0, c1, c2⟩, _⟩ := three_of_blockD T3.out; clear hb))
      | fail)
    go_ret
    exact ⟨rfl, HB3.out⟩
end Go.Proofs.Ytcgedfmagapnpaa
