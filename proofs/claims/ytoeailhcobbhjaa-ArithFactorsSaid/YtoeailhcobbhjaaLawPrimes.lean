/- ArithPrimes answers true for all integers: what it does to the world. -/
import Derived.Test.YtoeailhcobbhjaaSieve2
import Derived.Test.YtoeailhcobbhjaaAwake
namespace Go.Proofs.Ytoeailhcobbhjaa
open Go.RowKit

set_option maxHeartbeats 800000 in
set_option maxRecDepth 1000000 in
theorem primes_low (n : Int) (w : World) (h0 : -9223372036854775808 ≤ n) (h1 : n ≤ -2) :
    Calls Try.prog 22 #[.int .i64 n] w fun e w' => e = .returned (.tuple #[.slice none 0 0, .int .i64 0]) ∧ Below w.heap.size w w' := by
  obtain ⟨i1, hj, hy0, hy1, hy2⟩ := info_parts Try.info4
  have hmk : ∀ W : World, (Instr.makeSlice 77 (.int .i64 0) (.int .i64 0)).run Try.prog W = .ok (.slice (some ⟨W.heap.size, 0, none⟩) 0 0) (W.alloc (.cells (madeCells #[.bool false] 0) 4)) := fun W => by
    have h := run_make (P := Try.prog) W 77 4 i1 (.bool false) Try.underlying77 hj hy0 .i64 .i64 0 0 (by omega) (by omega) (by omega) (by omega)
    rw [hy1, Nat.mul_one] at h
    exact h
  have hw : wrap64 (n + 1) = n + 1 := IntWalk.wrap64_in _ (by omega)
  have hmx : (if (0 : Int) > n + 1 then 0 else n + 1) = 0 := by rw [if_pos (by omega)]
  have hmx2 : n + 1 < 0 := by omega
  clear h0
  go_enter Try.func22, Try.ntmps22
  go_wp2
  refine wp_loop_rounds 1 ?_
  rw [rounds_succ]
  go_wp2
  go_ret2
  exact ⟨rfl, (Below.refl _ _).alloc (Nat.le_refl _) _⟩
set_option maxHeartbeats 800000 in
set_option maxRecDepth 1000000 in
theorem primes_m1 (w : World) :
    Calls Try.prog 22 #[.int .i64 (-1)] w fun e w' => e = .returned (.tuple #[.slice none 0 0, .int .i64 0]) ∧ Below w.heap.size w w' := by
  obtain ⟨i1, hj, hy0, hy1, hy2⟩ := info_parts Try.info4
  have hmk : ∀ W : World, (Instr.makeSlice 77 (.int .i64 0) (.int .i64 0)).run Try.prog W = .ok (.slice (some ⟨W.heap.size, 0, none⟩) 0 0) (W.alloc (.cells (madeCells #[.bool false] 0) 4)) := fun W => by
    have h := run_make (P := Try.prog) W 77 4 i1 (.bool false) Try.underlying77 hj hy0 .i64 .i64 0 0 (by omega) (by omega) (by omega) (by omega)
    rw [hy1, Nat.mul_one] at h
    exact h
  go_enter Try.func22, Try.ntmps22
  go_wp2
  refine wp_loop_rounds 1 ?_
  rw [rounds_succ]
  go_wp2
  go_ret2
  exact ⟨rfl, (Below.refl _ _).alloc (Nat.le_refl _) _⟩
set_option maxHeartbeats 800000 in
set_option maxRecDepth 1000000 in
theorem primes_01 (k : Nat) (w : World) (hk : (k : Int) < 2) :
    Calls Try.prog 22 #[.int .i64 k] w fun e w' => e = .returned (.tuple #[.slice none 0 0, .int .i64 0]) ∧ Below w.heap.size w w' := by
  obtain ⟨i1, hj, hy0, hy1, hy2⟩ := info_parts Try.info4
  have hmk : ∀ W : World, (Instr.makeSlice 77 (.int .i64 ((k : Int) + 1)) (.int .i64 ((k : Int) + 1))).run Try.prog W = .ok (.slice (some ⟨W.heap.size, 0, none⟩) (k + 1) (k + 1)) (W.alloc (.cells (madeCells #[.bool false] (k + 1)) 4)) := fun W => by
    have h := run_make (P := Try.prog) W 77 4 i1 (.bool false) Try.underlying77 hj hy0 .i64 .i64 ((k : Int) + 1) ((k : Int) + 1) (by omega) (by omega) (by rw [hy2]; omega) (by omega)
    rw [show ((k : Int) + 1).toNat = k + 1 by omega, hy1, Nat.mul_one] at h
    exact h
  go_enter Try.func22, Try.ntmps22
  go_wp2
  refine wp_loop_rounds 1 ?_
  rw [rounds_succ]
  go_wp2
  go_ret2
  exact ⟨rfl, (Below.refl _ _).alloc (Nat.le_refl _) _⟩
set_option maxHeartbeats 800000 in
theorem primes_big (n : Int) (w : World) (h1 : 1048576 < n) :
    Calls Try.prog 22 #[.int .i64 n] w fun e w' => e = .returned (.tuple #[.slice none 0 0, .int .i64 2]) ∧ w = w' := by
  go_enter Try.func22, Try.ntmps22
  go_wp2
  go_ret2
  exact ⟨rfl, rfl⟩
theorem prs_low {n : Int} (h : n < 2) : prs (n + 1).toNat = [] := by
  have : (n + 1).toNat = 0 ∨ (n + 1).toNat = 1 ∨ (n + 1).toNat = 2 := by omega
  rcases this with h | h | h <;> rw [h] <;> decide
theorem primes_any (n : Int) (w : World) (h0 : -9223372036854775808 ≤ n) (h1 : n ≤ 1048576) :
    Calls Try.prog 22 #[.int .i64 n] w fun e w' => ∃ v, e = .returned (.tuple #[v, .int .i64 0]) ∧ w'.ownsRow (w.heap.size + 1) 3 1 v (prs (n + 1).toNat).length (nats (prs (n + 1).toNat)) ∧ Below w.heap.size w w' := by
  by_cases h2 : n < 2
  · have hE : ∀ w' : World, w'.ownsRow (w.heap.size + 1) 3 1 (.slice none 0 0) (prs (n + 1).toNat).length (nats (prs (n + 1).toNat)) := fun w' => by
      rw [prs_low h2]; exact World.ownsRow_nil _ _ _ _
    have hcase : n ≤ -2 ∨ n = -1 ∨ 0 ≤ n := by omega
    rcases hcase with h | h | h
    · exact (primes_low n w h0 h).mono fun e w' ⟨he, hb⟩ => ⟨_, he, hE w', hb⟩
    · subst h
      exact (primes_m1 w).mono fun e w' ⟨he, hb⟩ => ⟨_, he, hE w', hb⟩
    · obtain ⟨k, rfl⟩ : ∃ k : Nat, n = (k : Int) := ⟨n.toNat, by omega⟩
      exact (primes_01 k w h2).mono fun e w' ⟨he, hb⟩ => ⟨_, he, hE w', hb⟩
  · obtain ⟨k, rfl⟩ : ∃ k : Nat, n = (k : Int) := ⟨n.toNat, by omega⟩
    have := primes_main k w (by omega) h1
    rwa [show k + 1 = ((k : Int) + 1).toNat by omega] at this

theorem nats_get (L : List Nat) (k : Nat) (h : k < L.length) : (nats L)[k]? = some (.int .i64 (L[k] : Int)) := by simp [nats, h]
/-- A list of numbers in memory: its slice value, and where its cells lie. -/
theorem nats_shape {w : World} {base : Nat} {v : Value} {F : List Nat} (h : w.ownsRow base 3 1 v F.length (nats F)) :
    (F = [] ∧ v = .slice none 0 0) ∨ ∃ g cap, v = .slice (some ⟨g, 0, none⟩) F.length cap ∧ base ≤ g ∧ g < w.heap.size ∧ F.length ≤ cap ∧
      ∀ k (hk : k < F.length), w.cell? ⟨g, k, none⟩ = some (.int .i64 (F[k] : Int)) := by
  rcases h.2 with ⟨rfl, hn⟩ | ⟨g, cap, cur, rfl, hb, hg, hn, hc, hs, ht⟩
  · exact .inl ⟨by simpa using hn, rfl⟩
  · refine .inr ⟨g, cap, rfl, hb, lt_of_block hg, hn, fun k hk => ?_⟩
    have c1 := h.cells (g := g) rfl _ _ (nats_get F k hk)
    have e : (⟨g, 0, none⟩ : Addr).add k = ⟨g, k, none⟩ := by unfold Addr.add; split <;> simp_all
    rwa [e] at c1

set_option maxHeartbeats 800000 in
set_option maxRecDepth 1000000 in
theorem ints_same (L : List Nat) (v1 v2 : Value) (b1 b2 : Nat) (w : World) (h1 : w.ownsRow b1 3 1 v1 L.length (nats L)) (h2 : w.ownsRow b2 3 1 v2 L.length (nats L)) (hL : (L.length : Int) ≤ 2147483647) :
    Calls Try.prog 23 #[v1, v2] w fun e w' => e = .returned (.bool true) ∧ ∃ n, w' = w.drewN n := by
  have hnil : L = [] → v1 = .slice none 0 0 ∧ v2 = .slice none 0 0 → Calls Try.prog 23 #[v1, v2] w fun e w' => e = .returned (.bool true) ∧ ∃ n, w' = w.drewN n := by
    rintro rfl ⟨rfl, rfl⟩
    clear h1 h2
    go_enter Try.func23, Try.ntmps23
    go_wp2
    refine wp_loop_rounds 1 ?_
    rw [rounds_succ]
    go_wp2
    go_ret
    exact ⟨rfl, 0, rfl⟩
  rcases nats_shape h1 with ⟨hF, e1⟩ | ⟨g1, c1, rfl, _, _, hc1, hg1⟩
  · rcases nats_shape h2 with ⟨_, e2⟩ | ⟨g2, c2, rfl, _, _, hc2, hg2⟩
    · exact hnil hF ⟨e1, e2⟩
    · subst hF; subst e1
      clear hnil h1 h2 hg2
      go_enter Try.func23, Try.ntmps23
      go_wp2
      refine wp_loop_rounds 1 ?_
      rw [rounds_succ]
      go_wp2
      go_ret
      exact ⟨rfl, 0, rfl⟩
  · rcases nats_shape h2 with ⟨hF, e2⟩ | ⟨g2, c2, rfl, _, _, hc2, hg2⟩
    · subst hF; subst e2
      clear hnil h1 h2 hg1
      go_enter Try.func23, Try.ntmps23
      go_wp2
      refine wp_loop_rounds 1 ?_
      rw [rounds_succ]
      go_wp2
      go_ret
      exact ⟨rfl, 0, rfl⟩
    · have H1 := Lib.hid hg1
      have H2 := Lib.hid hg2
      clear hnil h1 h2 hg1 hg2
      go_enter Try.func23, Try.ntmps23
      go_wp2
      go_loopw [5] (fun i wr => ∃ (k n : Nat), k ≤ L.length ∧ i = .int .i64 k ∧ wr = w.drewN n) (fun i _ => L.length - (intOf i).toNat)
      case atStart => exact ⟨0, 0, Nat.zero_le _, rfl, rfl⟩
      case round =>
        obtain ⟨k, n, hk, rfl, rfl⟩ := hrel
        by_cases hlt : k < L.length
        · have x1 := H1.out k hlt
          have x2 := H2.out k hlt
          have hlt2 : (k : Int) < (L.length : Int) := by omega
          generalize L[k] = q at *
          go_wp2
          go_quiet (fail)
          go_wp2
          go_roundw
          case rel => exact ⟨k + 1, _, hlt, by go_num, rfl⟩
          case measure => simp [intOf]; omega
        · have hkl : k = L.length := by omega
          subst hkl
          go_wp2
          go_ret
          exact ⟨rfl, n, rfl⟩

theorem own_below {w w' : World} {b : Nat} {v : Value} {n : Nat} {xs : List Value} (h : w.ownsRow b 3 1 v n xs) (hb : Below w.heap.size w w') : w'.ownsRow b 3 1 v n xs :=
  h.kept (row := none) ⟨hb.os, hb.tape, hb.output, hb.size, fun k hk _ => hb.block k hk⟩ (by cases v.ownBlock <;> simp)

set_option maxHeartbeats 1600000 in
set_option maxRecDepth 1000000 in
theorem primes_walk (n k : Int) (w : World) (_ : -9223372036854775808 ≤ n) (_ : n ≤ 9223372036854775807) (k1 : -9223372036854775808 ≤ k) (_ : k ≤ 9223372036854775807) :
    Calls Try.prog 4 #[.int .i64 n, .int .i64 k] w fun e w' => e = .returned (.bool true) ∧ Below w.heap.size w w' := by
  have HA := Lib.hid (fun (W : World) (h : k ≤ 1048576) => primes_any k W k1 h)
  clear k1
  by_cases hn : 2147483647 < n
  · have HI := Lib.hid (fun W => isPrime_big n W hn)
    rcases (show 1048576 < k ∨ (3000 < k ∧ k ≤ 1048576) ∨ k ≤ 3000 by omega) with hk | ⟨hk, hk'⟩ | hk
    · go_enter Try.func4, Try.ntmps4
      go_wp2_with (first
        | (go_at_call 15; ((with_reducible refine (awake_any _).mono ?_); rintro e w1 ⟨rfl, hb1⟩; have HB := Lib.hid hb1; have hs1 := hb1.size; clear hb1))
        | (go_at_call 20; ((with_reducible refine (HI.out _).mono ?_); rintro e w' ⟨rfl, rfl⟩))
        | (go_at_call 22; ((with_reducible refine (primes_big _ _ hk).mono ?_); rintro e w' ⟨rfl, rfl⟩)))
      go_ret
      exact ⟨rfl, HB.out⟩
    · go_enter Try.func4, Try.ntmps4
      go_wp2_with (first
        | (go_at_call 15; ((with_reducible refine (awake_any _).mono ?_); rintro e w1 ⟨rfl, hb1⟩; have HB := Lib.hid hb1; have hs1 := hb1.size; clear hb1))
        | (go_at_call 20; ((with_reducible refine (HI.out _).mono ?_); rintro e w' ⟨rfl, rfl⟩))
        | (go_at_call 22; ((with_reducible refine (HA.out _ hk').mono ?_); rintro e w2 ⟨v, rfl, hown, hb2⟩; have HB2 := Lib.hid (HB.out.trans (hb2.mono hs1)); clear hown hb2)))
      go_ret
      exact ⟨rfl, HB2.out⟩
    · have hk' : k ≤ 1048576 := by omega
      have HLE : Hid (((prs (k + 1).toNat).length : Int) ≤ 2147483647) := by
        have := prs_le (k + 1).toNat
        show _ ≤ _
        omega
      go_enter Try.func4, Try.ntmps4
      go_wp2_with (first
        | (go_at_call 15; ((with_reducible refine (awake_any _).mono ?_); rintro e w1 ⟨rfl, hb1⟩; have HB := Lib.hid hb1; have hs1 := hb1.size; clear hb1))
        | (go_at_call 20; ((with_reducible refine (HI.out _).mono ?_); rintro e w' ⟨rfl, rfl⟩))
        | (go_at_call 22; ((with_reducible refine (HA.out _ hk').mono ?_); rintro e w2 ⟨v, rfl, hown, hb2⟩; have HO := Lib.hid hown; have hs2 := hb2.size; have HB2 := Lib.hid (HB.out.trans (hb2.mono hs1)); clear hown hb2))
        | (go_at_call 24; ((with_reducible refine (refPrimes_any _ _ hk).mono ?_); rintro e w3 ⟨v2, rfl, hown, hb3⟩; have HI2 := Lib.hid (fun h => ints_same _ _ _ _ _ w3 (own_below HO.out hb3) hown h); have HB3 := Lib.hid (HB2.out.trans (hb3.mono (Nat.le_trans hs1 hs2))); clear hown hb3))
        | (go_at_call 23; (refine (HI2.out HLE.out).mono ?_; rintro e w4 ⟨rfl, nn, rfl⟩)))
      go_ret
      exact ⟨rfl, below_drewN HB3.out _⟩
  · have hn' : n ≤ 2147483647 := by omega
    have HI := Lib.hid (fun W => isPrime_any n W hn')
    have HP := Lib.hid (fun W => refPrime_any n W hn')
    rcases (show 1048576 < k ∨ (3000 < k ∧ k ≤ 1048576) ∨ k ≤ 3000 by omega) with hk | ⟨hk, hk'⟩ | hk
    · go_enter Try.func4, Try.ntmps4
      go_wp2_with (first
        | (go_at_call 15; ((with_reducible refine (awake_any _).mono ?_); rintro e w1 ⟨rfl, hb1⟩; have HB := Lib.hid hb1; have hs1 := hb1.size; clear hb1))
        | (go_at_call 20; ((with_reducible refine (HI.out _).mono ?_); rintro e w' ⟨rfl, rfl⟩))
        | (go_at_call 21; ((with_reducible refine (HP.out _).mono ?_); rintro e w' ⟨rfl, rfl⟩))
        | (go_at_call 22; ((with_reducible refine (primes_big _ _ hk).mono ?_); rintro e w' ⟨rfl, rfl⟩)))
      go_ret
      exact ⟨rfl, HB.out⟩
    · go_enter Try.func4, Try.ntmps4
      go_wp2_with (first
        | (go_at_call 15; ((with_reducible refine (awake_any _).mono ?_); rintro e w1 ⟨rfl, hb1⟩; have HB := Lib.hid hb1; have hs1 := hb1.size; clear hb1))
        | (go_at_call 20; ((with_reducible refine (HI.out _).mono ?_); rintro e w' ⟨rfl, rfl⟩))
        | (go_at_call 21; ((with_reducible refine (HP.out _).mono ?_); rintro e w' ⟨rfl, rfl⟩))
        | (go_at_call 22; ((with_reducible refine (HA.out _ hk').mono ?_); rintro e w2 ⟨v, rfl, hown, hb2⟩; have HB2 := Lib.hid (HB.out.trans (hb2.mono hs1)); clear hown hb2)))
      go_ret
      exact ⟨rfl, HB2.out⟩
    · have hk' : k ≤ 1048576 := by omega
      have HLE : Hid (((prs (k + 1).toNat).length : Int) ≤ 2147483647) := by
        have := prs_le (k + 1).toNat
        show _ ≤ _
        omega
      go_enter Try.func4, Try.ntmps4
      go_wp2_with (first
        | (go_at_call 15; ((with_reducible refine (awake_any _).mono ?_); rintro e w1 ⟨rfl, hb1⟩; have HB := Lib.hid hb1; have hs1 := hb1.size; clear hb1))
        | (go_at_call 20; ((with_reducible refine (HI.out _).mono ?_); rintro e w' ⟨rfl, rfl⟩))
        | (go_at_call 21; ((with_reducible refine (HP.out _).mono ?_); rintro e w' ⟨rfl, rfl⟩))
        | (go_at_call 22; ((with_reducible refine (HA.out _ hk').mono ?_); rintro e w2 ⟨v, rfl, hown, hb2⟩; have HO := Lib.hid hown; have hs2 := hb2.size; have HB2 := Lib.hid (HB.out.trans (hb2.mono hs1)); clear hown hb2))
        | (go_at_call 24; ((with_reducible refine (refPrimes_any _ _ hk).mono ?_); rintro e w3 ⟨v2, rfl, hown, hb3⟩; have HI2 := Lib.hid (fun h => ints_same _ _ _ _ _ w3 (own_below HO.out hb3) hown h); have HB3 := Lib.hid (HB2.out.trans (hb3.mono (Nat.le_trans hs1 hs2))); clear hown hb3))
        | (go_at_call 23; (refine (HI2.out HLE.out).mono ?_; rintro e w4 ⟨rfl, nn, rfl⟩)))
      go_ret
      exact ⟨rfl, below_drewN HB3.out _⟩
end Go.Proofs.Ytoeailhcobbhjaa
