/- halfplaneref46.Cosets: its contract (with halfplaneref40's character); the law CorrespondenceCosets. -/
import Derived.Test.YthkhdbngeifenaaCorB
import Derived.Test.YthkhdbngeifenaaCorR
namespace Go.Proofs.Ythkhdbngeifenaa
open Go.RowKit
set_option linter.unusedVariables false
set_option linter.unusedSimpArgs false

set_option maxHeartbeats 800000 in
theorem gcd46_any (a b : Nat) (w : World) (ha : (a : Int) ≤ 1000) (hb : (b : Int) ≤ 1000) : Calls Try.prog 16 #[.int .i64 (a : Int), .int .i64 (b : Int)] w fun e w' => e = .returned (.int .i64 (Nat.gcd a b : Nat)) ∧ Below w.heap.size w w' := by
  obtain ⟨g, hg⟩ : ∃ g, g = Nat.gcd a b := ⟨_, rfl⟩
  rw [← hg]
  have HN := Lib.hid hg
  clear hg
  go_enter Try.func16, Try.ntmps16
  go_wp2
  go_loopw [0, 1] (fun x y wr => ∃ (p q : Nat), x = .int .i64 p ∧ y = .int .i64 q ∧ (p : Int) ≤ 1000 ∧ (q : Int) ≤ 1000 ∧ Hid (Nat.gcd p q = g) ∧ ∃ n, wr = w.drewN n) (fun _ y _ => (intOf y).toNat)
  case atStart => exact ⟨a, b, rfl, rfl, ha, hb, HN.out.symm, 0, rfl⟩
  case round =>
    clear HN
    obtain ⟨p, q, rfl, rfl, hp, hq, HGC, n, rfl⟩ := hrel
    by_cases hz : q = 0
    · have HR : Hid (p = g) := by have := HGC.out; rwa [hz, Nat.gcd_zero_right] at this
      have hq0 : ¬ (0 : Int) < (q : Int) := by omega
      clear hz
      go_wp2
      go_ret
      exact ⟨ret_int' (by rw [HR.out]), below_drewN (Below.refl _ _) n⟩
    · have hq0 : 0 < (q : Int) := by omega
      have hq1 : 1 ≤ (q : Int) := by omega
      have hlt := Nat.mod_lt p (show 0 < q by omega)
      have hmod : ((p % q : Nat) : Int) ≤ 1000 := by omega
      go_wp2
      go_quiet (fail)
      go_wp2
      go_roundw
      case rel => exact ⟨q, p % q, rfl, by first | rfl | go_num | (rw [Int.natCast_emod]; rfl) | simp, hq, hmod, gcd_next HGC.out, _, by rw [World.drewN_drewN]⟩
      case measure => simp [intOf]; omega
set_option maxHeartbeats 800000 in
theorem gcd40_any (a b : Nat) (w : World) (ha : (a : Int) ≤ 1000) (hb : (b : Int) ≤ 1000) : Calls Try.prog 30 #[.int .i64 (a : Int), .int .i64 (b : Int)] w fun e w' => e = .returned (.int .i64 (Nat.gcd a b : Nat)) ∧ Below w.heap.size w w' := by
  obtain ⟨g, hg⟩ : ∃ g, g = Nat.gcd a b := ⟨_, rfl⟩
  rw [← hg]
  have HN := Lib.hid hg
  clear hg
  go_enter Try.func30, Try.ntmps30
  go_wp2
  go_loopw [0, 1] (fun x y wr => ∃ (p q : Nat), x = .int .i64 p ∧ y = .int .i64 q ∧ (p : Int) ≤ 1000 ∧ (q : Int) ≤ 1000 ∧ Hid (Nat.gcd p q = g) ∧ ∃ n, wr = w.drewN n) (fun _ y _ => (intOf y).toNat)
  case atStart => exact ⟨a, b, rfl, rfl, ha, hb, HN.out.symm, 0, rfl⟩
  case round =>
    clear HN
    obtain ⟨p, q, rfl, rfl, hp, hq, HGC, n, rfl⟩ := hrel
    by_cases hz : q = 0
    · have HR : Hid (p = g) := by have := HGC.out; rwa [hz, Nat.gcd_zero_right] at this
      have hq0 : ¬ (0 : Int) < (q : Int) := by omega
      clear hz
      go_wp2
      go_ret
      exact ⟨ret_int' (by rw [HR.out]), below_drewN (Below.refl _ _) n⟩
    · have hq0 : 0 < (q : Int) := by omega
      have hq1 : 1 ≤ (q : Int) := by omega
      have hlt := Nat.mod_lt p (show 0 < q by omega)
      have hmod : ((p % q : Nat) : Int) ≤ 1000 := by omega
      go_wp2
      go_quiet (fail)
      go_wp2
      go_roundw
      case rel => exact ⟨q, p % q, rfl, by first | rfl | go_num | (rw [Int.natCast_emod]; rfl) | simp, hq, hmod, gcd_next HGC.out, _, by rw [World.drewN_drewN]⟩
      case measure => simp [intOf]; omega

set_option maxHeartbeats 1600000 in
set_option maxRecDepth 1000000 in
theorem chi_any (N a : Nat) (W D : Int) (w : World) (N1 : 1 ≤ N) (N2 : (N : Int) ≤ 120) (hf : fdB D = true) (hm : (N : Int) % D = 0) (a1 : 1 ≤ a) (a2 : (a : Int) ≤ 128) (hg : Nat.gcd a N = 1) :
    Calls Try.prog 17 #[.agg #[.int .i64 (N : Int), .int .i64 W, .int .i64 D], .int .i64 (a : Int)] w fun e w' => e = .returned (.int .i64 (kron D a)) ∧ Below w.heap.size w w' := by
  have T0 : Hid ((w.alloc (.cells #[.int .i64 (N : Int), .int .i64 W, .int .i64 D] 23)).heap[w.heap.size]? = some (.cells #[.int .i64 (N : Int), .int .i64 W, .int .i64 D] 23 (0, 0))) := heap_alloc_new w _
  have HB0 : Hid (Below w.heap.size w (w.alloc (.cells #[.int .i64 (N : Int), .int .i64 W, .int .i64 D] 23))) := below1 w _
  obtain ⟨⟨c0, c1, c2⟩, _⟩ := three_of_blockD T0.out
  have HM := Lib.hid (fun V => modD_any (a : Int) (N : Int) V (by omega) (by omega) (by omega) (by omega))
  have hlt := Nat.mod_lt a (show 0 < N by omega)
  have hcast : (a : Int) % (N : Int) = ((a % N : Nat) : Int) := (Int.natCast_emod a N).symm
  rw [hcast] at HM
  have hgg : Nat.gcd (a % N) N = 1 := by rw [← hg, Nat.gcd_comm a N, Nat.gcd_rec N a]
  have HG := Lib.hid (fun V => gcd40_any (a % N) N V (by omega) (by omega))
  rw [hgg] at HG
  have HK := Lib.hid (fun V => refKron_any D (a % N + N) V (by omega) (by omega))
  rw [kron_chi hf N1 hm a1] at HK
  have hc2 : ((a % N + N : Nat) : Int) = ((a % N : Nat) : Int) + (N : Int) := Int.natCast_add _ _
  rw [hc2] at HK
  clear hg hgg hcast hf hm hc2
  generalize kron D a = x at *
  generalize a % N = r at *
  go_enter Try.func17, Try.ntmps17
  go_wp2_with (first
    | (go_at_call 29; ((with_reducible refine (HM.out _).mono ?_); rintro e v ⟨rfl, rfl⟩))
    | (go_at_call 30; ((with_reducible refine (HG.out _).mono ?_); rintro e v2 ⟨rfl, hb⟩; have HB2 := Lib.hid (bel0 HB0.out hb); have T2 := Lib.hid (block_below T0.out hb); clear hb c0 c1 c2; obtain ⟨⟨c0, c1, c2⟩, _⟩ := three_of_blockD T2.out))
    | (go_at_call 31; ((with_reducible refine (HK.out _).mono ?_); rintro e v3 ⟨rfl, hb⟩; have HB3 := Lib.hid (bel0 HB2.out hb); clear hb c0 c1 c2))
    | fail)
  go_ret
  exact ⟨rfl, HB3.out⟩
set_option maxHeartbeats 3200000 in
set_option maxRecDepth 1000000 in
theorem rcosets_ok (N n : Nat) (W D : Int) (w : World) (h : ckV N W D = 0) (n1 : 1 ≤ n) (n2 : (n : Int) ≤ 128) :
    Calls Try.prog 7 #[.agg #[.int .i64 (N : Int), .int .i64 W, .int .i64 D], .int .i64 (n : Int)] w fun e w' => ∃ A1 c1 A2 c2, e = .returned (.tuple #[.slice A1 (coM N n (dvN n)).length c1, .slice A2 (coF N n D (dvN n)).length c2, .int .i64 0]) ∧ CW w.heap.size w w' (.slice A1 (coM N n (dvN n)).length c1) (.slice A2 (coF N n D (dvN n)).length c2) (coM N n (dvN n)) (coF N n D (dvN n)) := by
  obtain ⟨iM, hiM, y0, y1, y2⟩ := info_parts infoMat4
  obtain ⟨i0, hi0, z0, z1, z2⟩ := info_parts Try.infoInt
  have T0 : Hid ((w.alloc (.cells #[.int .i64 (N : Int), .int .i64 W, .int .i64 D] 23)).heap[w.heap.size]? = some (.cells #[.int .i64 (N : Int), .int .i64 W, .int .i64 D] 23 (0, 0))) := heap_alloc_new w _
  have HB0 : Hid (Below w.heap.size w (w.alloc (.cells #[.int .i64 (N : Int), .int .i64 W, .int .i64 D] 23))) := below1 w _
  obtain ⟨⟨c0, c1, c2⟩, _⟩ := three_of_blockD T0.out
  obtain ⟨⟨N1, N2⟩, _, ⟨d1, d2⟩, _⟩ := ckV_ok h
  have HCk := Lib.hid (fun V => rcheck_any N W D V)
  rw [h] at HCk
  obtain ⟨_, _, _, hfd, hmd, _⟩ := ckV_ok h
  have HLb := Lib.hid (coM_bd N n (show n ≤ 128 by omega))
  have HSm := Lib.hid (co_same N n D)
  have HPM := Lib.hid (coM_push N n)
  have HPF := Lib.hid (coF_push N n D)
  have HLp := Lib.hid (dvP_len n)
  have HY := Lib.hid (fun t (h : n % (t + 1) = 0) => dvP_yes h)
  have HNo := Lib.hid (fun t (h : n % (t + 1) ≠ 0) => dvP_no h)
  have HFd := Lib.hid hfd
  have HMd := Lib.hid hmd
  have HE : Hid (dvP n n = dvN n) := rfl
  have H0 := Lib.hid (dvP_zero n)
  clear h hfd hmd
  go_enter Try.func7, Try.ntmps7
  go_wp2_with (first
    | (go_at_call 15; ((with_reducible refine (HCk.out _).mono ?_); rintro e w2 ⟨rfl, hb⟩; have HB2 := Lib.hid (bel0 HB0.out hb); have T2 := Lib.hid (block_below T0.out hb); clear c0 c1 c2 hb))
    | fail)
  clear HCk
  have hsz2 := HB2.out.size
  have HQ0 : Hid (CW w2.heap.size w2 w2 (.slice none 0 0) (.slice none 0 0) (coM N n (dvP n 0)) (coF N n D (dvP n 0))) := by rw [H0.out]; exact ⟨World.ownsRow_nil _ _ _ _, World.ownsRow_nil _ _ _ _, Below.refl _ _, Nat.le_refl _⟩
  go_loopw [8, 9, 10, 11] (fun V1 V2 I _ wr => ∃ (t : Nat) (A1 : Option Addr) (c1 : Nat) (A2 : Option Addr) (c2 : Nat), V1 = .slice A1 (coM N n (dvP n t)).length c1 ∧ V2 = .slice A2 (coF N n D (dvP n t)).length c2 ∧ I = .int .i64 ((t + 1 : Nat) : Int) ∧ t ≤ n ∧ Hid (CW w2.heap.size w2 wr (.slice A1 (coM N n (dvP n t)).length c1) (.slice A2 (coF N n D (dvP n t)).length c2) (coM N n (dvP n t)) (coF N n D (dvP n t)))) (fun _ _ I _ _ => n + 1 - (intOf I).toNat)
  case atStart => exact ⟨0, none, 0, none, 0, by rw [H0.out]; rfl, by rw [H0.out]; rfl, rfl, Nat.zero_le _, HQ0.out⟩
  case round =>
    obtain ⟨k, A1, c1, A2, c2, rfl, rfl, rfl, hk, HQ⟩ := hrel
    clear HQ0
    by_cases hkl : k < n
    · have hLk := HLp.out k
      have hLb := HLb.out (dvP n k)
      have hSm := Lib.hid (HSm.out (dvP n k))
      have hY := HY.out k
      have hNo := HNo.out k
      have HPa := Lib.hid (HPM.out (dvP n k))
      have HPb := Lib.hid (HPF.out (dvP n k))
      obtain ⟨d, hd⟩ : ∃ d, d = k + 1 := ⟨_, rfl⟩
      rw [← hd] at hY hNo ⊢
      have HU := Lib.hid hd
      have m1 : 1 ≤ d := by omega
      have hdi1 : 1 ≤ (d : Int) := by omega
      have hdn : (d : Int) ≤ (n : Int) := by omega
      have hdi2 : (d : Int) ≤ 128 := by omega
      clear hd
      have hd0 : ((d : Int) == 0) = false := by rw [beq_eq_false_iff_ne]; omega
      have hd01 : ¬ ((d : Int) = 0) := by omega
      have hd02 : ¬ (d = 0) := by omega
      have hmod : (n : Int) % (d : Int) = ((n % d : Nat) : Int) := (Int.natCast_emod n d).symm
      have Tw := Lib.hid (block_below T2.out (HQ.out.bel))
      obtain ⟨⟨x2, x3, x4⟩, _⟩ := three_of_blockD Tw.out
      by_cases e : n % d = 0
      · have HN1 := Lib.hid (congrArg (coM N n) (hY e))
        have HN2 := Lib.hid (congrArg (coF N n D) (hY e))
        have hne : ((n : Int) % (d : Int) != 0) = false := by rw [hmod, e]; rfl
        have HN1 : Hid (coM N n (dvP n d) = coM N n (dvP n k) ++ (if Nat.gcd d N = 1 then coT d (n / d) (n / d) else [])) := by show _ = _; rw [HN1.out, HPa.out]
        have HN2 : Hid (coF N n D (dvP n d) = coF N n D (dvP n k) ++ (if Nat.gcd d N = 1 then List.replicate (n / d) (kron D d) else [])) := by show _ = _; rw [HN2.out, HPb.out]
        clear hY hNo e hmod HPa HPb
        generalize coM N n (dvP n k) = L at *
        generalize coF N n D (dvP n k) = F at *
        have hq1 : 1 ≤ n / d := Nat.div_pos (by omega) m1
        have hq2 : n / d ≤ 128 := Nat.le_trans (Nat.div_le_self _ _) (by omega)
        have hqd : (n : Int) / (d : Int) = ((n / d : Nat) : Int) := (Int.natCast_ediv _ _).symm
        have htd : Int.tdiv (n : Int) (d : Int) = ((n / d : Nat) : Int) := (Int.ofNat_tdiv _ _).symm
        have HG := Lib.hid (fun V => gcd46_any d N V (by omega) (by omega))
        by_cases hgc : Nat.gcd d N = 1
        · rw [if_pos hgc] at HN1 HN2
          rw [hgc] at HG
          have HKr := Lib.hid (fun V => chi_any N d W D V (by omega) (by omega) HFd.out HMd.out m1 hdi2 hgc)
          clear hgc
          generalize n / d = q at *
          generalize kron D d = x at *
          have hqi : (q : Int) ≤ 128 := by omega
          go_upto_region 12 with (first
            | (go_at_call 16; ((with_reducible refine (HG.out _).mono ?_); rintro e wa ⟨rfl, hb⟩; have HQ1 := Lib.hid (HQ.out.on hb); have Tw1 := Lib.hid (block_below Tw.out hb); clear hb))
            | fail)
          clear x2 x3 x4 Tw HQ
          obtain ⟨⟨x2, x3, x4⟩, _⟩ := three_of_blockD Tw1.out
          have hLl : L.length ≤ 16512 := by omega
          have hFl : F.length ≤ 16512 := by have := hSm.out; omega
          clear hSm hLb hLk HLb
          go_wp2
          go_loopw [8, 9, 11] (fun V1 V2 I wi => ∃ (j : Nat) (A1 : Option Addr) (c1 : Nat) (A2 : Option Addr) (c2 : Nat) (M : List (Nat × Nat × Nat)) (E : List Int), V1 = .slice A1 M.length c1 ∧ V2 = .slice A2 E.length c2 ∧ I = .int .i64 (j : Int) ∧ j ≤ q ∧ M.length ≤ 16512 + j ∧ E.length ≤ 16512 + j ∧ Hid (M = L ++ coT d q j) ∧ Hid (E = F ++ List.replicate j x) ∧ Hid (CW w2.heap.size w2 wi (.slice A1 M.length c1) (.slice A2 E.length c2) M E)) (fun _ _ I _ => q - (intOf I).toNat)
          case atStart => exact ⟨0, A1, c1, A2, c2, L, F, rfl, rfl, rfl, Nat.zero_le _, by omega, by omega, by show _ = _; simp [coT], by show _ = _; simp, HQ1.out⟩
          case round =>
            obtain ⟨j, B1, e1, B2, e2, M, E, rfl, rfl, rfl, hj, hMl, hEl, HM, HE1, HQ2⟩ := hrel
            by_cases hjq : j < q
            · have hjqi : (j : Int) < (q : Int) := by omega
              have hszi : w2.heap.size ≤ wr.heap.size := HQ2.out.bel.size
              have HO1 : Hid (wr.ownsRow w2.heap.size 40 4 (.slice B1 M.length e1) M.length (m4s M)) := HQ2.out.r1
              have HM2 : Hid (M ++ [(d, j, q)] = L ++ coT d q (j + 1)) := by show _ = _; rw [HM.out, coT_succ, List.append_assoc]
              have HE2 : Hid (E ++ [x] = F ++ List.replicate (j + 1) x) := by show _ = _; rw [HE1.out, List.replicate_succ', List.append_assoc]
              clear x2 x3 x4
              go_upto_region 16 with (first
                | (at_builtin; (refine wpList_append_own_at _ rfl _ _ 25 rfl w2.heap.size 40 iM (.agg #[.int .i64 0, .int .i64 0, .int .i64 0, .int .i64 0]) 4 32 Try.underlying25 hiM y0 y1 y2 rfl (by decide) _ _ _ rfl (HO1.out.alloc _) ⟨wr.heap.size, 0, none⟩ 1 1 [.int .i64 (d : Int), .int .i64 (j : Int), .int .i64 0, .int .i64 (q : Int)] rfl rfl (cell_four_newK _ _ _ _ _ _) (fun x hx => by simp at hx; rcases hx with rfl | rfl | rfl | rfl <;> rfl) (by unfold maxLen; omega) (by omega) (by simp; omega) ?_); intro v' w4 hown4 hg4 hnil4 hat4; obtain ⟨A3, c3, rfl⟩ := own_len hown4; have HQ4 := Lib.hid (HQ2.out.pushM hown4 hg4); clear hown4 hg4 hnil4 hat4)
                | fail)
              have T4 := Lib.hid (block_below T2.out (HQ4.out.bel))
              obtain ⟨⟨x2, x3, x4⟩, _⟩ := three_of_blockD T4.out
              have hsz4 : w2.heap.size ≤ w4.heap.size := HQ4.out.bel.size
              clear HO1 HQ2
              go_wp2_with (first
                | (go_at_call 17; ((with_reducible refine (HKr.out _).mono ?_); rintro e w5 ⟨rfl, hb⟩; have HQ5 := Lib.hid (HQ4.out.on hb); have HO5 : Hid (w5.ownsRow w2.heap.size 3 1 (.slice B2 E.length e2) E.length (zs E)) := HQ5.out.r2; have hsz5 : w2.heap.size ≤ w5.heap.size := HQ5.out.bel.size; clear hb))
                | (at_builtin; (refine wpList_append_own_at _ rfl _ _ 26 rfl w2.heap.size 3 i0 (.int .i64 0) 1 8 Try.underlying26 hi0 z0 z1 z2 rfl (by decide) _ _ _ rfl (HO5.out.alloc _) ⟨w5.heap.size, 0, none⟩ 1 1 [.int .i64 x] rfl rfl (cell_one_new' _ _ _) (fun x hx => by simp at hx; rw [hx]; rfl) (by unfold maxLen; omega) (by omega) (by simp; omega) ?_); intro v' w6 hown6 hg6 hnil6 hat6; obtain ⟨A4, c4, rfl⟩ := own_len hown6; have HQ6 := Lib.hid (HQ5.out.pushF hown6 hg6); clear hown6 hg6 hnil6 hat6)
                | fail)
              go_roundw
              case rel => exact ⟨j + 1, A3, c3, A4, c4, _, _, by rw [List.length_append]; rfl, by rw [List.length_append]; rfl, by go_num, by omega, by rw [List.length_append]; simp; omega, by rw [List.length_append]; simp; omega, HM2.out, HE2.out, by rw [List.length_append, List.length_append]; exact HQ6.out⟩
              case measure => simp [intOf]; omega
            · obtain rfl : j = q := by omega
              have hk3 : ¬ (j : Int) < (j : Int) := by omega
              go_wp2
              go_roundw
              case rel => exact ⟨d, B1, e1, B2, e2, by rw [HN1.out, ← HM.out], by rw [HN2.out, ← HE1.out], by go_num, by have := HU.out; omega, by rw [HN1.out, ← HM.out, HN2.out, ← HE1.out]; exact HQ2.out⟩
              case measure => have := HU.out; simp [intOf]; omega
        · rw [if_neg hgc, List.append_nil] at HN1 HN2
          have hgc2 : (((Nat.gcd d N : Nat) : Int) != 1) = true := by rw [bne_iff_ne]; omega
          clear hgc
          generalize Nat.gcd d N = gg at *
          go_wp2_with (first
            | (go_at_call 16; ((with_reducible refine (HG.out _).mono ?_); rintro e w3 ⟨rfl, hb⟩; have HQ1 := Lib.hid (HQ.out.on hb); clear hb))
            | fail)
          go_roundw
          case rel => exact ⟨d, A1, c1, A2, c2, by rw [HN1.out], by rw [HN2.out], by go_num, by have := HU.out; omega, by rw [HN1.out, HN2.out]; exact HQ1.out⟩
          case measure => have := HU.out; simp [intOf]; omega
      · have HN1 := Lib.hid (congrArg (coM N n) (hNo e))
        have HN2 := Lib.hid (congrArg (coF N n D) (hNo e))
        have hne : ((n : Int) % (d : Int) != 0) = true := by rw [hmod, bne_iff_ne]; omega
        clear hY hNo e hmod HPa HPb
        go_wp2
        go_roundw
        case rel => exact ⟨d, A1, c1, A2, c2, by rw [HN1.out], by rw [HN2.out], by go_num, by have := HU.out; omega, by rw [HN1.out, HN2.out]; exact HQ.out⟩
        case measure => have := HU.out; simp [intOf]; omega
    · obtain rfl : k = n := by omega
      have hk3 : ¬ (((k + 1 : Nat)) : Int) ≤ (k : Int) := by omega
      rw [HE.out] at HQ ⊢
      have HQ9 : Hid (CW w.heap.size w wr (.slice A1 (coM N k (dvN k)).length c1) (.slice A2 (coF N k D (dvN k)).length c2) (coM N k (dvN k)) (coF N k D (dvN k))) := ⟨own_base HB2.out.size HQ.out.r1, own_base HB2.out.size HQ.out.r2, HB2.out.trans (HQ.out.bel.mono HB2.out.size), Nat.le_refl _⟩
      go_wp2
      refine bodyPost_ret (v := .tuple #[.slice A1 (coM N k (dvN k)).length c1, .slice A2 (coF N k D (dvN k)).length c2, .int .i64 0]) ?_ rfl ⟨_, _, _, _, rfl, HQ9.out⟩
      simp [results, Try.results7, go_sem]
set_option maxHeartbeats 800000 in
set_option maxRecDepth 1000000 in
theorem rcosets_bad (N W D n k : Int) (w : World) (h : ckV N W D = k) (hk : k ≠ 0) :
    Calls Try.prog 7 #[.agg #[.int .i64 N, .int .i64 W, .int .i64 D], .int .i64 n] w fun e w' => e = .returned (.tuple #[.slice none 0 0, .slice none 0 0, .int .i64 k]) ∧ Below w.heap.size w w' := by
  have T0 : Hid ((w.alloc (.cells #[.int .i64 N, .int .i64 W, .int .i64 D] 23)).heap[w.heap.size]? = some (.cells #[.int .i64 N, .int .i64 W, .int .i64 D] 23 (0, 0))) := heap_alloc_new w _
  have HB0 : Hid (Below w.heap.size w (w.alloc (.cells #[.int .i64 N, .int .i64 W, .int .i64 D] 23))) := below1 w _
  obtain ⟨⟨c0, c1, c2⟩, _⟩ := three_of_blockD T0.out
  have HCk := Lib.hid (fun V => rcheck_any N W D V)
  rw [h] at HCk
  have hk1 : (k != 0) = true := by rw [bne_iff_ne]; exact hk
  clear h
  go_enter Try.func7, Try.ntmps7
  go_wp2_with (first
    | (go_at_call 15; ((with_reducible refine (HCk.out _).mono ?_); rintro e v1 ⟨rfl, hb⟩; have HB1 := Lib.hid (bel0 HB0.out hb); clear hb c0 c1 c2))
    | fail)
  refine bodyPost_ret (v := .tuple #[.slice none 0 0, .slice none 0 0, .int .i64 k]) ?_ rfl ⟨rfl, HB1.out⟩
  simp [results, Try.results7, go_sem]
set_option maxHeartbeats 800000 in
set_option maxRecDepth 1000000 in
theorem rcosets_far (N W D n : Int) (w : World) (h : ckV N W D = 0) (hn : n < 1 ∨ 128 < n) :
    Calls Try.prog 7 #[.agg #[.int .i64 N, .int .i64 W, .int .i64 D], .int .i64 n] w fun e w' => e = .returned (.tuple #[.slice none 0 0, .slice none 0 0, .int .i64 2]) ∧ Below w.heap.size w w' := by
  have T0 : Hid ((w.alloc (.cells #[.int .i64 N, .int .i64 W, .int .i64 D] 23)).heap[w.heap.size]? = some (.cells #[.int .i64 N, .int .i64 W, .int .i64 D] 23 (0, 0))) := heap_alloc_new w _
  have HB0 : Hid (Below w.heap.size w (w.alloc (.cells #[.int .i64 N, .int .i64 W, .int .i64 D] 23))) := below1 w _
  obtain ⟨⟨c0, c1, c2⟩, _⟩ := three_of_blockD T0.out
  have HCk := Lib.hid (fun V => rcheck_any N W D V)
  rw [h] at HCk
  clear h
  by_cases h1 : n < 1
  · clear hn
    go_enter Try.func7, Try.ntmps7
    go_wp2_with (first
      | (go_at_call 15; ((with_reducible refine (HCk.out _).mono ?_); rintro e v1 ⟨rfl, hb⟩; have HB1 := Lib.hid (bel0 HB0.out hb); clear hb c0 c1 c2))
      | fail)
    refine bodyPost_ret (v := .tuple #[.slice none 0 0, .slice none 0 0, .int .i64 2]) ?_ rfl ⟨rfl, HB1.out⟩
    simp [results, Try.results7, go_sem]
  · have h2 : 128 < n := by omega
    have h3 : 1 ≤ n := by omega
    clear hn h1
    go_enter Try.func7, Try.ntmps7
    go_wp2_with (first
      | (go_at_call 15; ((with_reducible refine (HCk.out _).mono ?_); rintro e v1 ⟨rfl, hb⟩; have HB1 := Lib.hid (bel0 HB0.out hb); clear hb c0 c1 c2))
      | fail)
    refine bodyPost_ret (v := .tuple #[.slice none 0 0, .slice none 0 0, .int .i64 2]) ?_ rfl ⟨rfl, HB1.out⟩
    simp [results, Try.results7, go_sem]
end Go.Proofs.Ythkhdbngeifenaa
