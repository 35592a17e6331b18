/- Products of values of characters, as plain numbers. The reference's roots of unity: Mod, Root, Times; Value of what is no character. -/
import Derived.Test.YtlagljnhbhnelaaCharM
import Derived.Test.YtlagljnhbhnelaaTabXb
import Derived.Test.YtlagljnhbhnelaaOrdX
namespace Go.Proofs.Ytlagljnhbhnelaa
set_option linter.unusedVariables false

theorem red_scale (x y c : Nat) (hc : 0 < c) : x * c / Nat.gcd (x * c) (y * c) = x / Nat.gcd x y := by
  rw [Nat.gcd_mul_right, Nat.mul_div_mul_right _ _ hc]
/-- The sum of two fractions modulo 1, reduced. -/
theorem red_add {k1 k2 m : Nat} (m1 : 1 ≤ m) (N D : Nat) (hN : N = k1 / Nat.gcd k1 m * (m / Nat.gcd k2 m) + k2 / Nat.gcd k2 m * (m / Nat.gcd k1 m)) (hD : D = m / Nat.gcd k1 m * (m / Nat.gcd k2 m)) :
    1 ≤ D ∧ N % D / Nat.gcd (N % D) D = (k1 + k2) % m / Nat.gcd ((k1 + k2) % m) m ∧ D / Nat.gcd (N % D) D = m / Nat.gcd ((k1 + k2) % m) m := by
  have p1 : 0 < Nat.gcd k1 m := Nat.gcd_pos_of_pos_right k1 m1
  have p2 : 0 < Nat.gcd k2 m := Nat.gcd_pos_of_pos_right k2 m1
  have e1 := Nat.div_mul_cancel (Nat.gcd_dvd_left k1 m)
  have e2 := Nat.div_mul_cancel (Nat.gcd_dvd_right k1 m)
  have e3 := Nat.div_mul_cancel (Nat.gcd_dvd_left k2 m)
  have e4 := Nat.div_mul_cancel (Nat.gcd_dvd_right k2 m)
  generalize Nat.gcd k1 m = g1 at *
  generalize Nat.gcd k2 m = g2 at *
  generalize k1 / g1 = a1 at *
  generalize k2 / g2 = a2 at *
  generalize m / g1 = d1 at *
  generalize m / g2 = d2 at *
  have hG : 0 < g1 * g2 := Nat.mul_pos p1 p2
  have hDG : D * (g1 * g2) = m * m := by
    rw [hD]
    calc d1 * d2 * (g1 * g2) = (d1 * g1) * (d2 * g2) := by rw [Nat.mul_mul_mul_comm]
      _ = m * m := by rw [e2, e4]
  have hNG : N * (g1 * g2) = (k1 + k2) * m := by
    rw [hN, Nat.add_mul, Nat.add_mul]
    congr 1
    · calc a1 * d2 * (g1 * g2) = (a1 * g1) * (d2 * g2) := by rw [Nat.mul_mul_mul_comm]
        _ = k1 * m := by rw [e1, e4]
    · calc a2 * d1 * (g1 * g2) = (a2 * g2) * (d1 * g1) := by rw [Nat.mul_comm g1 g2, Nat.mul_mul_mul_comm]
        _ = k2 * m := by rw [e3, e2]
  have hD1 : 1 ≤ D := Nat.pos_of_ne_zero fun h0 => by
    rw [h0, Nat.zero_mul] at hDG
    have := Nat.mul_pos m1 m1
    omega
  have hr : N % D * (g1 * g2) = (k1 + k2) % m * m := by
    rw [← Nat.mul_mod_mul_right, hNG, hDG, Nat.mul_mod_mul_right]
  refine ⟨hD1, ?_, ?_⟩
  · rw [← red_scale (N % D) D (g1 * g2) hG, hr, hDG, red_scale _ _ m m1]
  · have h9 := red_scale D (N % D) (g1 * g2) hG
    rw [Nat.gcd_comm (D * (g1 * g2)), hr, hDG, Nat.gcd_comm D] at h9
    rw [← h9]
    have h8 := red_scale m ((k1 + k2) % m) m m1
    rw [Nat.gcd_comm (m * m), Nat.gcd_comm m] at h8
    exact h8
/-- The logarithm of a product. -/
def lgM (k1 k2 : Int) (m : Nat) : Int := if k1 = -1 ∨ k2 = -1 then -1 else (k1 + k2) % (m : Int)
theorem gcd_modn (x n : Nat) : Nat.gcd (x % n) n = Nat.gcd x n := by
  rw [← Nat.gcd_rec n x, Nat.gcd_comm]
theorem ChT.prod {n m : Nat} {T : List Int} (h : ChT n m T) (n1 : 1 ≤ n) (a b : Int) : T.getD ((a * b) % (n : Int)).toNat 0 = lgM (T.getD (a % (n : Int)).toNat 0) (T.getD (b % (n : Int)).toNat 0) m := by
  have hn : (n : Int) ≠ 0 := by omega
  have a0 := Int.emod_nonneg a hn
  have b0 := Int.emod_nonneg b hn
  have a1 := Int.emod_lt_of_pos a (show 0 < (n : Int) by omega)
  have b1 := Int.emod_lt_of_pos b (show 0 < (n : Int) by omega)
  have e : (a * b) % (n : Int) = ((((a % (n : Int)).toNat * (b % (n : Int)).toNat % n : Nat)) : Int) := by
    rw [Int.natCast_emod, Int.natCast_mul, Int.toNat_of_nonneg a0, Int.toNat_of_nonneg b0, ← Int.mul_emod]
  rw [e, Int.toNat_natCast]
  generalize ha : (a % (n : Int)).toNat = i
  generalize hb : (b % (n : Int)).toNat = j
  have hi : i < n := by omega
  have hj : j < n := by omega
  have hij : i * j % n < n := Nat.mod_lt _ (by omega)
  unfold lgM
  by_cases gi : Nat.gcd i n = 1
  · by_cases gj : Nat.gcd j n = 1
    · rw [if_neg (by have := h.yes i hi gi; have := h.yes j hj gj; omega)]
      exact h.mul i j hi hj gi gj
    · rw [if_pos (.inr (h.no j hj gj))]
      refine h.no _ hij fun hg => gj ?_
      rw [gcd_modn] at hg
      exact Nat.Coprime.coprime_mul_left hg
  · rw [if_pos (.inl (h.no i hi gi))]
    refine h.no _ hij fun hg => gi ?_
    rw [gcd_modn] at hg
    exact Nat.Coprime.coprime_mul_right hg
theorem ChT.bd {n m : Nat} {T : List Int} (h : ChT n m T) (n1 : 1 ≤ n) (a : Int) : -1 ≤ T.getD (a % (n : Int)).toNat 0 ∧ T.getD (a % (n : Int)).toNat 0 < (m : Int) := by
  have hn : (n : Int) ≠ 0 := by omega
  have a0 := Int.emod_nonneg a hn
  have a1 := Int.emod_lt_of_pos a (show 0 < (n : Int) by omega)
  have hm := h.m1
  generalize ha : (a % (n : Int)).toNat = i
  have hi : i < n := by omega
  by_cases g : Nat.gcd i n = 1
  · have := h.yes i hi g; omega
  · rw [h.no i hi g]; omega
theorem mod_shift (a k : Int) (n : Nat) : (a + k * (n : Int)) % (n : Int) = a % (n : Int) := Int.add_mul_emod_self_right a k n
end Go.Proofs.Ytlagljnhbhnelaa
namespace Go.Proofs.Ytlagljnhbhnelaa
open Go.RowKit
set_option linter.unusedVariables false
set_option linter.unusedSimpArgs false

set_option maxHeartbeats 800000 in
theorem modR_any (a q : Int) (w : World) (a1 : -1000001 ≤ a) (a2 : a ≤ 1000001) (q1 : 1 ≤ q) (q2 : q ≤ 10000) : Calls Try.prog 36 #[.int .i64 a, .int .i64 q] w fun e w' => e = .returned (.int .i64 (a % q)) ∧ w' = w := by
  have hm := tmod_add a q (by omega)
  have hs := tmod_same a q (by omega)
  have b1 : (a.tmod q).natAbs < q.natAbs := by rw [Int.natAbs_tmod]; exact Nat.mod_lt _ (by omega)
  by_cases h : a.tmod q < 0
  · have e := hm h
    clear hm hs
    go_enter Try.func36, Try.ntmps36
    go_wp2
    go_ret
    exact ⟨rfl, rfl⟩
  · have e := hs (by omega)
    clear hm hs
    rw [← e]
    go_enter Try.func36, Try.ntmps36
    go_wp2
    go_ret
    exact ⟨rfl, rfl⟩
set_option maxHeartbeats 1600000 in
set_option maxRecDepth 1000000 in
theorem root_any (N D : Nat) (w : World) (D1 : 1 ≤ D) (N2 : (N : Int) ≤ 1000000) (D2 : (D : Int) ≤ 10000) :
    Calls Try.prog 55 #[.int .i64 (N : Int), .int .i64 (D : Int)] w fun e w' => e = .returned (.agg #[.bool false, .int .i64 ((N % D / Nat.gcd (N % D) D : Nat) : Int), .int .i64 ((D / Nat.gcd (N % D) D : Nat) : Int)]) ∧ Below w.heap.size w w' := by
  have hr : N % D < D := Nat.mod_lt _ D1
  have HM := Lib.hid (fun W => modR_any (N : Int) (D : Int) W (by omega) (by omega) (by omega) D2)
  rw [show (N : Int) % (D : Int) = ((N % D : Nat) : Int) from (Int.natCast_emod N D).symm] at HM
  have HG := Lib.hid (fun W => rGcd_any ((N % D : Nat) : Int) (D : Int) W (by unfold Mid; omega) (by unfold Mid; omega))
  have hgi : Int.gcd ((N % D : Nat) : Int) (D : Int) = Nat.gcd (N % D) D := by
    show Nat.gcd (((N % D : Nat) : Int)).natAbs ((D : Int)).natAbs = _
    rw [Int.natAbs_natCast, Int.natAbs_natCast]
  rw [hgi] at HG
  have hg1 : 1 ≤ Nat.gcd (N % D) D := Nat.gcd_pos_of_pos_right _ D1
  clear hgi
  generalize N % D = r at *
  generalize Nat.gcd r D = g at *
  have g0 : ((g : Int) == 0) = false := by rw [beq_eq_false_iff_ne]; omega
  have g0' : ¬ ((g : Int) = 0) := by omega
  have g0'' : ¬ (g = 0) := by omega
  have hq1 : r / g ≤ r := Nat.div_le_self _ _
  have hq2 : D / g ≤ D := Nat.div_le_self _ _
  have ht1 : Int.tdiv (r : Int) (g : Int) = ((r / g : Nat) : Int) := (Int.ofNat_tdiv _ _).symm
  have hd1 : (r : Int) / (g : Int) = ((r / g : Nat) : Int) := (Int.natCast_ediv _ _).symm
  have ht2 : Int.tdiv (D : Int) (g : Int) = ((D / g : Nat) : Int) := (Int.ofNat_tdiv _ _).symm
  have hd2 : (D : Int) / (g : Int) = ((D / g : Nat) : Int) := (Int.natCast_ediv _ _).symm
  generalize r / g = q1 at *
  generalize D / g = q2 at *
  have hw1 : IntKind.i64.wrap (q1 : Int) = (q1 : Int) := IntWalk.i64_in _ (by omega)
  have hw2 : IntKind.i64.wrap (q2 : Int) = (q2 : Int) := IntWalk.i64_in _ (by omega)
  have R0 : Hid ((w.alloc (.cells #[.bool false, .int .i64 0, .int .i64 0] 48)).heap[w.heap.size]? = some (.cells #[.bool false, .int .i64 0, .int .i64 0] 48 (0, 0))) := heap_alloc_new w _
  have B0 : Hid (Below w.heap.size w (w.alloc (.cells #[.bool false, .int .i64 0, .int .i64 0] 48))) := below1 w _
  go_enter Try.func55, Try.ntmps55
  go_upto_region 3 with (first
    | (go_at_call 36; ((with_reducible refine (HM.out _).mono ?_); rintro e w1 ⟨rfl, rfl⟩))
    | (go_at_call 35; ((with_reducible refine (HG.out _).mono ?_); rintro e w2 ⟨rfl, hd⟩; have R2 := Lib.hid (block_below R0.out (bel_drewN hd)); have B2 := Lib.hid (B0.out.trans ((bel_drewN hd).mono B0.out.size)); clear hd))
    | fail)
  obtain ⟨⟨r0, r1, r2⟩, rf⟩ := three_of_blockD R2.out
  go_region
  have R6 : Hid (((((w2.setCell ⟨w.heap.size, 0, none⟩ (.bool false)).setCell ⟨w.heap.size, 1, none⟩ (.int .i64 (q1 : Int))).setCell ⟨w.heap.size, 2, none⟩ (.int .i64 (q2 : Int))).drew).heap[w.heap.size]? = some (.cells #[.bool false, .int .i64 (q1 : Int), .int .i64 (q2 : Int)] 48 (0, 0))) := three_setV R2.out (.bool false) (.int .i64 (q1 : Int)) (.int .i64 (q2 : Int))
  obtain ⟨⟨s0, s1, s2⟩, sf⟩ := three_of_blockD R6.out
  have HB6 := Lib.hid ((((B2.out.setCell (p := ⟨w.heap.size, 0, none⟩) (Nat.le_refl _) (.bool false)).setCell (p := ⟨w.heap.size, 1, none⟩) (Nat.le_refl _) (.int .i64 (q1 : Int))).setCell (p := ⟨w.heap.size, 2, none⟩) (Nat.le_refl _) (.int .i64 (q2 : Int))).drew)
  go_wp2
  refine bodyPost_ret (v := .agg #[.bool false, .int .i64 (q1 : Int), .int .i64 (q2 : Int)]) ?_ rfl ⟨rfl, ?_⟩
  · simp [results, Try.results55, go_sem, s0, s1, s2]
  · exact HB6.out
set_option maxHeartbeats 1600000 in
set_option maxRecDepth 1000000 in
theorem times_any (k1 k2 : Int) (m : Nat) (w : World) (m1 : 1 ≤ m) (m2 : m ≤ 60) (a1 : -1 ≤ k1) (a2 : k1 < (m : Int)) (b1 : -1 ≤ k2) (b2 : k2 < (m : Int)) :
    Calls Try.prog 34 #[rouV k1 m, rouV k2 m] w fun e w' => e = .returned (rouV (lgM k1 k2 m) m) ∧ Below w.heap.size w w' := by
  rw [rou_eq, rou_eq]
  obtain ⟨z1, hz1⟩ : ∃ z, z = decide (k1 = -1) := ⟨_, rfl⟩
  obtain ⟨z2, hz2⟩ : ∃ z, z = decide (k2 = -1) := ⟨_, rfl⟩
  obtain ⟨x1, hx1⟩ : ∃ x, x = rouN k1 m := ⟨_, rfl⟩
  obtain ⟨x2, hx2⟩ : ∃ x, x = rouN k2 m := ⟨_, rfl⟩
  obtain ⟨y1, hy1⟩ : ∃ x, x = rouD k1 m := ⟨_, rfl⟩
  obtain ⟨y2, hy2⟩ : ∃ x, x = rouD k2 m := ⟨_, rfl⟩
  obtain ⟨V, hV⟩ : ∃ V, V = rouV (lgM k1 k2 m) m := ⟨_, rfl⟩
  rw [← hz1, ← hz2, ← hx1, ← hx2, ← hy1, ← hy2, ← hV]
  have U1 : Hid (((w.alloc (.cells #[.bool z1, .int .i64 x1, .int .i64 y1] 48)).alloc (.cells #[.bool z2, .int .i64 x2, .int .i64 y2] 48)).heap[w.heap.size]? = some (.cells #[.bool z1, .int .i64 x1, .int .i64 y1] 48 (0, 0))) := block_alloc (heap_alloc_new w _) _
  have U2 : Hid (((w.alloc (.cells #[.bool z1, .int .i64 x1, .int .i64 y1] 48)).alloc (.cells #[.bool z2, .int .i64 x2, .int .i64 y2] 48)).heap[w.heap.size + 1]? = some (.cells #[.bool z2, .int .i64 x2, .int .i64 y2] 48 (0, 0))) := by
    have := heap_alloc_new (w.alloc (.cells #[.bool z1, .int .i64 x1, .int .i64 y1] 48)) (.cells #[.bool z2, .int .i64 x2, .int .i64 y2] 48)
    show _ = _; simpa using this
  have B2 : Hid (Below w.heap.size w ((w.alloc (.cells #[.bool z1, .int .i64 x1, .int .i64 y1] 48)).alloc (.cells #[.bool z2, .int .i64 x2, .int .i64 y2] 48))) := below2 w _ _
  obtain ⟨Wa, hWa⟩ : ∃ Wa, Wa = ((w.alloc (.cells #[.bool z1, .int .i64 x1, .int .i64 y1] 48)).alloc (.cells #[.bool z2, .int .i64 x2, .int .i64 y2] 48)) := ⟨_, rfl⟩
  have hWs : Wa.heap.size = w.heap.size + 2 := by rw [hWa]; simp
  rw [← hWa] at U1 U2 B2
  have HW := Lib.hid hWa
  have R0 : Hid ((Wa.alloc (.cells #[.bool false, .int .i64 0, .int .i64 0] 48)).heap[w.heap.size + 2]? = some (.cells #[.bool false, .int .i64 0, .int .i64 0] 48 (0, 0))) := by
    have := heap_alloc_new Wa (.cells #[.bool false, .int .i64 0, .int .i64 0] 48)
    rw [hWs] at this; exact this
  have U1a := Lib.hid (block_alloc U1.out (.cells #[.bool false, .int .i64 0, .int .i64 0] 48))
  have U2a := Lib.hid (block_alloc U2.out (.cells #[.bool false, .int .i64 0, .int .i64 0] 48))
  have B3 : Hid (Below w.heap.size w (Wa.alloc (.cells #[.bool false, .int .i64 0, .int .i64 0] 48))) := B2.out.alloc B2.out.size _
  rw [hWa] at R0 U1a U2a B3
  obtain ⟨⟨u0, u1, u2⟩, _⟩ := three_of_blockD U1a.out
  obtain ⟨⟨t0, t1, t2⟩, _⟩ := three_of_blockD U2a.out
  obtain ⟨⟨r0, r1, r2⟩, rf⟩ := three_of_blockD R0.out
  clear hWa hWs
  by_cases hk : k1 = -1 ∨ k2 = -1
  · have HVe : Hid (V = .agg #[.bool true, .int .i64 0, .int .i64 0]) := by
      show _ = _
      rw [hV]; unfold lgM; rw [if_pos hk]; rfl
    have hzz : (z1 || z2) = true := by
      rw [hz1, hz2]; rcases hk with h | h <;> simp [h]
    have R6 := Lib.hid (three_setV R0.out (.bool true) (.int .i64 0) (.int .i64 0))
    obtain ⟨⟨s0, s1, s2⟩, sf⟩ := three_of_blockD R6.out
    have HB6 := Lib.hid (((B3.out.setCell (p := ⟨w.heap.size + 2, 0, none⟩) (by show _ ≤ w.heap.size + 2; omega) (.bool true)).setCell (p := ⟨w.heap.size + 2, 1, none⟩) (by show _ ≤ w.heap.size + 2; omega) (.int .i64 0)).setCell (p := ⟨w.heap.size + 2, 2, none⟩) (by show _ ≤ w.heap.size + 2; omega) (.int .i64 0))
    clear hk hz1 hz2 hx1 hx2 hy1 hy2 hV
    go_enter Try.func34, Try.ntmps34
    cases z1 <;> cases z2 <;> first | (cases hzz; done) | skip
    all_goals
      go_wp2
      refine bodyPost_ret (v := .agg #[.bool true, .int .i64 0, .int .i64 0]) ?_ rfl ⟨by rw [HVe.out], (below2 w _ _).alloc (by simp; omega) _⟩
      simp [results, Try.results34, go_sem, s0, s1, s2]
  · obtain ⟨n1, rfl⟩ : ∃ n1 : Nat, k1 = (n1 : Int) := ⟨k1.toNat, by omega⟩
    obtain ⟨n2, rfl⟩ : ∃ n2 : Nat, k2 = (n2 : Int) := ⟨k2.toNat, by omega⟩
    have e1 : z1 = false := by rw [hz1]; exact decide_eq_false (by omega)
    have e2 : z2 = false := by rw [hz2]; exact decide_eq_false (by omega)
    have f1 : x1 = ((n1 / Nat.gcd n1 m : Nat) : Int) := by rw [hx1]; unfold rouN; rw [if_neg (by omega), Int.toNat_natCast]
    have f2 : x2 = ((n2 / Nat.gcd n2 m : Nat) : Int) := by rw [hx2]; unfold rouN; rw [if_neg (by omega), Int.toNat_natCast]
    have f3 : y1 = ((m / Nat.gcd n1 m : Nat) : Int) := by rw [hy1]; unfold rouD; rw [if_neg (by omega), Int.toNat_natCast]
    have f4 : y2 = ((m / Nat.gcd n2 m : Nat) : Int) := by rw [hy2]; unfold rouD; rw [if_neg (by omega), Int.toNat_natCast]
    have hred := red_add (k1 := n1) (k2 := n2) m1 _ _ rfl rfl
    have HVe : Hid (V = .agg #[.bool false, .int .i64 (((n1 + n2) % m / Nat.gcd ((n1 + n2) % m) m : Nat) : Int), .int .i64 ((m / Nat.gcd ((n1 + n2) % m) m : Nat) : Int)]) := by
      show _ = _
      have hs : ((n1 : Int) + (n2 : Int)) % (m : Int) = (((n1 + n2) % m : Nat) : Int) := by rw [Int.natCast_emod, Int.natCast_add]
      rw [hV, rou_eq]; unfold lgM; rw [if_neg hk, hs]
      unfold rouN rouD
      rw [if_neg (by omega), if_neg (by omega), Int.toNat_natCast, decide_eq_false (by omega)]
    rw [← hred.2.1, ← hred.2.2] at HVe
    have d1 : n1 / Nat.gcd n1 m ≤ 60 := Nat.le_trans (Nat.div_le_self _ _) (by omega)
    have d2 : n2 / Nat.gcd n2 m ≤ 60 := Nat.le_trans (Nat.div_le_self _ _) (by omega)
    have d3 : m / Nat.gcd n1 m ≤ 60 := Nat.le_trans (Nat.div_le_self _ _) m2
    have d4 : m / Nat.gcd n2 m ≤ 60 := Nat.le_trans (Nat.div_le_self _ _) m2
    have hD1 := hred.1
    clear hred hV hz1 hz2 hx1 hx2 hy1 hy2
    generalize n1 / Nat.gcd n1 m = p1 at *
    generalize n2 / Nat.gcd n2 m = p2 at *
    generalize m / Nat.gcd n1 m = q1 at *
    generalize m / Nat.gcd n2 m = q2 at *
    subst e1 e2 f1 f2 f3 f4
    have g1 := Nat.mul_le_mul d1 d4
    have g2 := Nat.mul_le_mul d2 d3
    have g3 := Nat.mul_le_mul d3 d4
    have h1 : (p1 : Int) * (q2 : Int) = ((p1 * q2 : Nat) : Int) := (Int.natCast_mul _ _).symm
    have h2 : (p2 : Int) * (q1 : Int) = ((p2 * q1 : Nat) : Int) := (Int.natCast_mul _ _).symm
    have h3 : (q1 : Int) * (q2 : Int) = ((q1 * q2 : Nat) : Int) := (Int.natCast_mul _ _).symm
    have HRt := Lib.hid (fun W => root_any (p1 * q2 + p2 * q1) (q1 * q2) W hD1 (by omega) (by omega))
    generalize p1 * q2 = P at *
    generalize p2 * q1 = Q at *
    generalize q1 * q2 = D at *
    have h4 : (P : Int) + (Q : Int) = ((P + Q : Nat) : Int) := (Int.natCast_add _ _).symm
    generalize P + Q = N at *
    have w1 : IntKind.i64.wrap (P : Int) = (P : Int) := IntWalk.i64_in _ (by omega)
    have w2 : IntKind.i64.wrap (Q : Int) = (Q : Int) := IntWalk.i64_in _ (by omega)
    have w3 : IntKind.i64.wrap (D : Int) = (D : Int) := IntWalk.i64_in _ (by omega)
    have w4 : IntKind.i64.wrap (N : Int) = (N : Int) := IntWalk.i64_in _ (by omega)
    generalize N % D / Nat.gcd (N % D) D = X at *
    generalize D / Nat.gcd (N % D) D = Y at *
    go_enter Try.func34, Try.ntmps34
    go_wp2_with (first
      | (go_at_call 55; ((with_reducible refine (HRt.out _).mono ?_); rintro e w5 ⟨rfl, hb⟩; have R5 := Lib.hid (block_below R0.out hb); have B5 := Lib.hid (B3.out.trans (hb.mono B3.out.size)); clear r0 r1 r2 rf hb; obtain ⟨⟨r0, r1, r2⟩, rf⟩ := three_of_blockD R5.out))
      | fail)
    have R6 := Lib.hid (three_setV R5.out (.bool false) (.int .i64 (X : Int)) (.int .i64 (Y : Int)))
    obtain ⟨⟨s0, s1, s2⟩, sf⟩ := three_of_blockD R6.out
    have HB6 := Lib.hid (((B5.out.setCell (p := ⟨w.heap.size + 2, 0, none⟩) (by show _ ≤ w.heap.size + 2; omega) (.bool false)).setCell (p := ⟨w.heap.size + 2, 1, none⟩) (by show _ ≤ w.heap.size + 2; omega) (.int .i64 (X : Int))).setCell (p := ⟨w.heap.size + 2, 2, none⟩) (by show _ ≤ w.heap.size + 2; omega) (.int .i64 (Y : Int)))
    refine bodyPost_ret (v := .agg #[.bool false, .int .i64 (X : Int), .int .i64 (Y : Int)]) ?_ rfl ⟨by rw [HVe.out], HB6.out⟩
    simp [results, Try.results34, go_sem, s0, s1, s2]
end Go.Proofs.Ytlagljnhbhnelaa
