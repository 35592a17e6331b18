/- What is known of each group of at most 1152 cosets. The search, Of and Representatives for every group. The reference's Index. -/
import Derived.Test.YtilfkppapimocaaSgD1
import Derived.Test.YtilfkppapimocaaSgD2
import Derived.Test.YtilfkppapimocaaIdxG
import Derived.Test.YtilfkppapimocaaAwakeG
import Derived.Test.YtilfkppapimocaaSeaL
import Derived.Test.YtilfkppapimocaaGrpL
namespace Go.Proofs.Ytilfkppapimocaa
set_option linter.unusedVariables false

theorem three_parts {p : Nat → Bool} (h1 : (List.range 60).all p = true) (h2 : (List.range 35).all (fun k => p (60 + k)) = true) (h3 : (List.range 26).all (fun k => p (95 + k)) = true) {n : Nat} (hn : n ≤ 120) : p n = true := by
  by_cases a : n < 60
  · exact List.all_eq_true.1 h1 n (List.mem_range.2 a)
  · by_cases b : n < 95
    · have := List.all_eq_true.1 h2 (n - 60) (List.mem_range.2 (by omega))
      rwa [show 60 + (n - 60) = n by omega] at this
    · have := List.all_eq_true.1 h3 (n - 95) (List.mem_range.2 (by omega))
      rwa [show 95 + (n - 95) = n by omega] at this
/-- The coset function of a kind of group. -/
noncomputable def kco (k n : Int) : M4 → K4 := if k = 1 then kc1 n else if k = 2 then kc2 n else if k = 3 then kc3 n else kc0 n
/-- What is known of a group of few cosets. -/
structure KF (k n : Int) (N : Nat) : Prop where
  cos : Cos (kco k n)
  fin : SFin (kco k n) N
  ok : ∀ j, j < N → okB ((srun (kco k n) j).L.getD j (0, 0, 0, 0)) = true
  com : ∀ m, bd5 m → dtM m = 1 → CoM k n (kco k n) m
theorem kf_of {k n : Int} (hk : 1 ≤ k ∧ k ≤ 4) (hn : 1 ≤ n ∧ n ≤ 120) (hN : idxN k n.toNat ≤ 1152) : KF k n (idxN k n.toNat) := by
  obtain ⟨m, rfl⟩ : ∃ m : Nat, n = (m : Int) := ⟨n.toNat, by omega⟩
  rw [Int.toNat_natCast] at hN ⊢
  have m1 : 1 ≤ m := by omega
  have m2 : m ≤ 120 := by omega
  have m0 : (m == 0) = false := by simp; omega
  obtain rfl | rfl | rfl | rfl : k = 1 ∨ k = 2 ∨ k = 3 ∨ k = 4 := by omega
  · have e : kco 1 (m : Int) = kc1 m := rfl
    have hi : idxN 1 m = (V1 m).length := by unfold V1; rw [List.length_map, pts_psi m1 m2]; rfl
    rw [hi]
    have hF := kfin1 m1
    refine ⟨e ▸ kos1 hn.1, e ▸ hF, fun j hj => ?_, fun x hb hd => e ▸ kom1 hn.1 hn.2 hb hd⟩
    have hb := three_parts b_one1 b_one2 b_one3 m2
    unfold bOk1 bOk at hb
    rw [m0, Bool.false_or] at hb
    rw [e]
    exact fb_all (mkN m1 fun x => (x.2.2.1, x.2.2.2)) hF.lt hb j hj
  · have e : kco 2 (m : Int) = kc2 m := rfl
    have hi0 : idxN 2 m = psiN m * phiN m := rfl
    have hi : idxN 2 m = (V2 m).length := by rw [v2_len m1 m2 (by rw [← hi0]; exact hN)]; exact hi0
    have hF := kfin2 m1
    rw [← hi] at hF
    refine ⟨e ▸ kos2 _, e ▸ hF, fun j hj => ?_, fun x hb hd => e ▸ kom2 hn.1 hn.2 hb⟩
    have hb := List.all_eq_true.1 b_two m (List.mem_range.2 (by omega))
    unfold bOk2 bOk at hb
    rw [m0, Bool.false_or, Bool.or_eq_true, decide_eq_true_eq] at hb
    rw [hi0] at hN
    rw [e]
    rcases hb with hb | hb
    · omega
    · exact fb_all (mk2 m1) hF.lt hb j hj
  · have e : kco 3 (m : Int) = kc3 m := rfl
    have hi0 : idxN 3 m = psiN m * (phiN m * m) := rfl
    have hi : idxN 3 m = (V4 m).length := by rw [v4_len m1 m2 (by rw [← hi0]; exact hN)]; exact hi0
    have hF := kfin3 m1
    rw [← hi] at hF
    refine ⟨e ▸ kos3 _, e ▸ hF, fun j hj => ?_, fun x hb hd => e ▸ kom3 hn.1 hn.2 hb⟩
    have hb := List.all_eq_true.1 b_three m (List.mem_range.2 (by omega))
    unfold bOk3 bOk at hb
    rw [m0, Bool.false_or, Bool.or_eq_true, decide_eq_true_eq] at hb
    rw [hi0] at hN
    rw [e]
    rcases hb with hb | hb
    · omega
    · exact fb_all (mk3 m1) hF.lt hb j hj
  · have e : kco 4 (m : Int) = kc0 m := rfl
    have hi : idxN 4 m = (V1 m).length := by unfold V1; rw [List.length_map, pts_psi m1 m2]; rfl
    rw [hi]
    have hF := kfin0 m1
    refine ⟨e ▸ kos0 hn.1, e ▸ hF, fun j hj => ?_, fun x hb hd => e ▸ kom0 hn.1 hn.2 hb hd⟩
    have hb := three_parts b_nil1 b_nil2 b_nil3 m2
    unfold bOk0 bOk at hb
    rw [m0, Bool.false_or] at hb
    rw [e]
    exact fb_all (mkN m1 fun x => (x.1, x.2.1)) hF.lt hb j hj
end Go.Proofs.Ytilfkppapimocaa
namespace Go.Proofs.Ytilfkppapimocaa
open Go.RowKit
set_option linter.unusedVariables false
set_option linter.unusedSimpArgs false

theorem kis_zs (L : List Nat) : is L = zs (iz L) := by simp [is, zs, iz]
/-- The search of a group of few cosets. -/
theorem ksearch {k n : Int} {N : Nat} (h : KF k n N) (hN : N ≤ 1152) (w : World) : Calls Try.prog 43 #[.agg #[.int .i64 k, .int .i64 n]] w fun e w' => ∃ vS vT vl, e = .returned (.tuple #[.agg #[vS, vT], vl]) ∧
      w'.ownsRow w.heap.size 3 1 vS (iz (srun (kco k n) N).S).length (zs (iz (srun (kco k n) N).S)) ∧ w'.ownsRow w.heap.size 3 1 vT (iz (srun (kco k n) N).T).length (zs (iz (srun (kco k n) N).T)) ∧ w'.ownsRow w.heap.size 26 4 vl N (ms (srun (kco k n) N).L) ∧ Below w.heap.size w w' := by
  have hd : ∀ i, i < N → dtM ((srun (kco k n) i).L.getD i (0, 0, 0, 0)) = 1 := fun i hi => (RI.all h.fin.lt i (by omega)).d _ (getD_inM (h.fin.lt i hi))
  have hs := search_any k n (kco k n) N w h.fin.len h.fin.lt (by omega) (fun i hi => (ok_bd (h.ok i hi)).1) (fun i hi => ⟨h.com _ (ok_bd (h.ok i hi)).2.1 (by rw [dtM_S]; exact hd i hi), h.com _ (ok_bd (h.ok i hi)).2.2 (by rw [dtM_T]; exact hd i hi)⟩) (h.com _ (by simp [bd5]) rfl)
  have l1 : (iz (srun (kco k n) N).S).length = N := by rw [iz_len]; exact (srun_len _ N).2.1
  have l2 : (iz (srun (kco k n) N).T).length = N := by rw [iz_len]; exact (srun_len _ N).2.2
  rw [l1, l2]
  rw [kis_zs, kis_zs] at hs
  exact hs
set_option maxHeartbeats 3200000 in
set_option maxRecDepth 1000000 in
theorem of_gen {k n : Int} {S T : List Int} {N : Nat} {xs : List Value} (w : World) (HK0 : ∀ W, Calls Try.prog 42 #[.agg #[.int .i64 k, .int .i64 n]] W fun e w' => e = .returned (.int .i64 0) ∧ Below W.heap.size W w')
    (HS0 : ∀ W, Calls Try.prog 43 #[.agg #[.int .i64 k, .int .i64 n]] W fun e w' => ∃ vS vT vl, e = .returned (.tuple #[.agg #[vS, vT], vl]) ∧ w'.ownsRow W.heap.size 3 1 vS S.length (zs S) ∧ w'.ownsRow W.heap.size 3 1 vT T.length (zs T) ∧ w'.ownsRow W.heap.size 26 4 vl N xs ∧ Below W.heap.size W w') :
    Calls Try.prog 21 #[.agg #[.int .i64 k, .int .i64 n]] w fun e w' => ∃ AS cS AT cT, e = .returned (.tuple #[.agg #[.slice AS S.length cS, .slice AT T.length cT], .int .i64 0]) ∧ RdZ w' w'.heap.size AS cS S ∧ RdZ w' w'.heap.size AT cT T ∧ Below w.heap.size w w' := by
  have HK := Lib.hid HK0
  have HS := Lib.hid HS0
  clear HK0 HS0
  go_enter Try.func21, Try.ntmps21
  go_wp2_with (first
    | (go_at_call 42; ((with_reducible refine (HK.out _).mono ?_); rintro e w1 ⟨rfl, hb⟩; have T1 : Hid (w1.heap[w.heap.size]? = some (.cells #[.int .i64 k, .int .i64 n] 24 (0, 0))) := block_below (block_alloc (heap_alloc_new w _) _) hb; have R1 : Hid (w1.heap[w.heap.size + 1]? = some (.cells #[.slice none 0 0, .slice none 0 0] 47 (0, 0))) := block_below (by have := heap_alloc_new (w.alloc (.cells #[.int .i64 k, .int .i64 n] 24)) (.cells #[.slice none 0 0, .slice none 0 0] 47); simpa using this) hb; have HB1 : Hid (Below w.heap.size w w1) := bel2 (Below.refl _ _) hb; obtain ⟨⟨t1, t2⟩, _⟩ := two_of_block T1.out; have hz1 := lt_of_block R1.out; clear hb))
    | (go_at_call 43; ((with_reducible refine (HS.out _).mono ?_); rintro e w2 ⟨vS, vT, vl, rfl, hS, hT, hL, hb⟩; obtain ⟨AS, cS, rfl⟩ := own_len hS; obtain ⟨AT, cT, rfl⟩ := own_len hT; obtain ⟨AL, cL, rfl⟩ := own_len hL; have OS := Lib.hid hS; have OT := Lib.hid hT; have R2 : Hid (w2.heap[w.heap.size + 1]? = some (.cells #[.slice none 0 0, .slice none 0 0] 47 (0, 0))) := block_below R1.out hb; have HB2 : Hid (Below w.heap.size w w2) := bel0 HB1.out hb; obtain ⟨⟨k1, k2⟩, fz⟩ := two_of_block R2.out; have f1 := fz 0; have f2 := fz 1; have hz2 := lt_of_block R2.out; clear hb hS hT hL t1 t2 fz))
    | fail)
  obtain ⟨HR1, HR2⟩ := of_world (S := S) (T := T) hz1 (.cells #[.slice AS S.length cS, .slice AT T.length cT] 47) (.slice AS S.length cS) (.slice AT T.length cT) OS.out OT.out
  obtain ⟨⟨r1, r2⟩, _⟩ := two_of_block (block_alloc (two_set1 (two_set0 R2.out (.slice AS S.length cS)) (.slice AT T.length cT)) (.cells #[.slice AS S.length cS, .slice AT T.length cT] 47))
  refine bodyPost_ret (v := .tuple #[.agg #[.slice AS S.length cS, .slice AT T.length cT], .int .i64 0]) ?_ rfl ⟨AS, cS, AT, cT, rfl, HR1, HR2, (below_set2 HB2.out (Nat.le_succ _) _ _).trans ((below1 _ _).mono (by have := HB2.out.size; simpa using this))⟩
  simp [results, Try.results21, go_sem, r1, r2]
set_option maxHeartbeats 3200000 in
set_option maxRecDepth 1000000 in
theorem of_bad {k n z : Int} (w : World) (hz : z ≠ 0) (HK0 : ∀ W, Calls Try.prog 42 #[.agg #[.int .i64 k, .int .i64 n]] W fun e w' => e = .returned (.int .i64 z) ∧ Below W.heap.size W w') :
    Calls Try.prog 21 #[.agg #[.int .i64 k, .int .i64 n]] w fun e w' => e = .returned (.tuple #[.agg #[.slice none 0 0, .slice none 0 0], .int .i64 z]) ∧ Below w.heap.size w w' := by
  have HK := Lib.hid HK0
  have hzb : (z == 0) = false := by simpa using hz
  clear HK0
  go_enter Try.func21, Try.ntmps21
  go_wp2_with (first
    | (go_at_call 42; ((with_reducible refine (HK.out _).mono ?_); rintro e w1 ⟨rfl, hb⟩; have R1 : Hid (w1.heap[w.heap.size + 1]? = some (.cells #[.slice none 0 0, .slice none 0 0] 47 (0, 0))) := block_below (by have := heap_alloc_new (w.alloc (.cells #[.int .i64 k, .int .i64 n] 24)) (.cells #[.slice none 0 0, .slice none 0 0] 47); simpa using this) hb; have HB1 : Hid (Below w.heap.size w w1) := bel2 (Below.refl _ _) hb; obtain ⟨⟨k1, k2⟩, fz⟩ := two_of_block R1.out; have f1 := fz 0; have f2 := fz 1; have hz1 := lt_of_block R1.out; clear hb fz))
    | fail)
  obtain ⟨⟨r1, r2⟩, _⟩ := two_of_block (two_set1 (two_set0 R1.out (.slice none 0 0)) (.slice none 0 0))
  refine bodyPost_ret (v := .tuple #[.agg #[.slice none 0 0, .slice none 0 0], .int .i64 z]) ?_ rfl ⟨rfl, below_set2 HB1.out (Nat.le_succ _) _ _⟩
  simp [results, Try.results21, go_sem, r1, r2]
/-- The lists of a group's action. -/
noncomputable def olS (k n : Int) : List Int := iz (srun (kco k n) (idxN k n.toNat)).S
noncomputable def olT (k n : Int) : List Int := iz (srun (kco k n) (idxN k n.toNat)).T
theorem ckx_kf {k n : Int} (h : ckxI k n = 0) : KF k n (idxN k n.toNat) ∧ idxN k n.toNat ≤ 1152 ∧ gckI k n = 0 := by
  have hg : gckI k n = 0 := by
    unfold ckxI at h
    by_cases hg : gckI k n = 0
    · exact hg
    · rw [if_neg hg] at h; exact absurd h hg
  have hi : idxI k n = (idxN k n.toNat : Nat) := if_pos hg
  have hN : idxN k n.toNat ≤ 1152 := by
    unfold ckxI at h
    rw [if_pos hg, hi] at h
    by_cases h9 : 1152 < ((idxN k n.toNat : Nat) : Int)
    · rw [if_pos h9] at h; exact absurd h (by decide)
    · omega
  rcases gck_cases k n with ⟨_, h2⟩ | ⟨_, _, h2⟩ | ⟨h1, h2, _⟩
  · rw [h2] at hg; exact absurd hg (by decide)
  · rw [h2] at hg; exact absurd hg (by decide)
  · exact ⟨kf_of h1 h2 hN, hN, hg⟩
theorem ol_len {k n : Int} : (olS k n).length = idxN k n.toNat ∧ (olT k n).length = idxN k n.toNat := by
  unfold olS olT
  rw [iz_len, iz_len]
  exact ⟨(srun_len _ _).2.1, (srun_len _ _).2.2⟩
theorem ol_act {k n : Int} (h : ckxI k n = 0) : Act2 (olS k n) (olT k n) := by
  obtain ⟨hF, hN, _⟩ := ckx_kf h
  exact hF.fin.act hF.cos hN
theorem of_ok {k n : Int} (h : ckxI k n = 0) (w : World) : Calls Try.prog 21 #[.agg #[.int .i64 k, .int .i64 n]] w fun e w' => ∃ AS cS AT cT, e = .returned (.tuple #[.agg #[.slice AS (olS k n).length cS, .slice AT (olT k n).length cT], .int .i64 0]) ∧ RdZ w' w'.heap.size AS cS (olS k n) ∧ RdZ w' w'.heap.size AT cT (olT k n) ∧ Below w.heap.size w w' := by
  obtain ⟨hF, hN, _⟩ := ckx_kf h
  exact of_gen w (fun W => by rw [← h]; exact ckx_any k n W) (fun W => ksearch hF hN W)
theorem of_err {k n : Int} (h : ckxI k n ≠ 0) (w : World) : Calls Try.prog 21 #[.agg #[.int .i64 k, .int .i64 n]] w fun e w' => e = .returned (.tuple #[.agg #[.slice none 0 0, .slice none 0 0], .int .i64 (ckxI k n)]) ∧ Below w.heap.size w w' :=
  of_bad w h fun W => ckx_any k n W
end Go.Proofs.Ytilfkppapimocaa
namespace Go.Proofs.Ytilfkppapimocaa
open Go.RowKit
set_option linter.unusedVariables false
set_option linter.unusedSimpArgs false

/-- Whether p is a prime, as the reference finds it, up to q. -/
def prQ (p q : Nat) : Bool := (List.range q).all fun t => decide (t < 2) || p % t != 0
theorem prQ_succ (p q : Nat) : prQ p (q + 1) = (prQ p q && (decide (q < 2) || p % q != 0)) := by unfold prQ; rw [List.range_succ, List.all_append]; simp
/-- The product over the primes up to p, as the reference reckons it. -/
def rps (n : Nat) : Nat → Nat
  | 0 => n
  | p + 1 => if p + 1 < 2 then n else if (n % (p + 1) == 0 && prQ (p + 1) (p + 1)) = true then rps n p / (p + 1) * (p + 2) else rps n p
theorem rps_one (n : Nat) : rps n 1 = n := rfl
theorem rps_bd (n : Nat) : ∀ p, 1 ≤ p → 2 * rps n p ≤ n * (p + 1)
  | 0, h => absurd h (by decide)
  | 1, _ => by rw [rps_one]; omega
  | p + 2, _ => by
    have ih := rps_bd n (p + 1) (by omega)
    unfold rps
    rw [if_neg (by omega)]
    split
    · generalize rps n (p + 1) = x at *
      have h1 : 2 * (x / (p + 1 + 1)) ≤ n := by
        have h2 := Nat.div_mul_le_self x (p + 1 + 1)
        have h3 : 2 * (x / (p + 1 + 1)) * (p + 1 + 1) ≤ n * (p + 1 + 1) := by rw [Nat.mul_assoc]; omega
        exact Nat.le_of_mul_le_mul_right h3 (by omega)
      rw [← Nat.mul_assoc]
      exact Nat.mul_le_mul_right _ h1
    · have : n * (p + 1 + 1) ≤ n * (p + 2 + 1) := Nat.mul_le_mul_left _ (by omega)
      omega
/-- The number of matrices modulo n, as the reference reckons it. -/
def rpf (n : Nat) : Nat → Nat
  | 0 => n * n * n
  | p + 1 => if p + 1 < 2 then n * n * n else if (n % (p + 1) == 0 && prQ (p + 1) (p + 1)) = true then rpf n p / ((p + 1) * (p + 1)) * ((p + 1) * (p + 1) - 1) else rpf n p
theorem rpf_bd (n : Nat) : ∀ p, rpf n p ≤ n * n * n
  | 0 => Nat.le_refl _
  | p + 1 => by
    rw [rpf]
    split
    · exact Nat.le_refl _
    · split
      · refine Nat.le_trans ?_ (rpf_bd n p)
        exact Nat.le_trans (Nat.mul_le_mul_left _ (Nat.sub_le _ _)) (Nat.div_mul_le_self _ _)
      · exact rpf_bd n p
def rOk (n : Nat) : Bool := n == 0 || (rps n n == psiN n && rpf n n == psiN n * (phiN n * n) && rpf n n / n == psiN n * phiN n)
theorem r_all : (List.range 121).all rOk = true := by decide +kernel
theorem r_of {n : Nat} (n1 : 1 ≤ n) (n2 : n ≤ 120) : rps n n = psiN n ∧ rpf n n = psiN n * (phiN n * n) ∧ rpf n n / n = psiN n * phiN n := by
  have h := List.all_eq_true.1 r_all n (List.mem_range.2 (by omega))
  unfold rOk at h
  simp only [Bool.or_eq_true, Bool.and_eq_true, beq_iff_eq] at h
  omega
set_option maxHeartbeats 6400000 in
set_option maxRecDepth 1000000 in
theorem rindex_no {k n z : Int} (w : World) (hz : z ≠ 0) (HC0 : ∀ W, Calls Try.prog 16 #[.agg #[.int .i64 k, .int .i64 n]] W fun e w' => e = .returned (.int .i64 z) ∧ Below W.heap.size W w') :
    Calls Try.prog 20 #[.agg #[.int .i64 k, .int .i64 n]] w fun e w' => e = .returned (.tuple #[.int .i64 0, .int .i64 z]) ∧ Below w.heap.size w w' := by
  have HC := Lib.hid HC0
  have hzb : (z == 0) = false := by simpa using hz
  clear HC0
  go_enter Try.func20, Try.ntmps20
  go_wp2_with (first
    | (go_at_call 16; ((with_reducible refine (HC.out _).mono ?_); rintro e w1 ⟨rfl, hb⟩; have HB1 : Hid (Below w.heap.size w w1) := bel1 (Below.refl _ _) hb; clear hb))
    | fail)
  go_ret2
  exact ⟨rfl, HB1.out⟩
set_option maxHeartbeats 6400000 in
set_option maxRecDepth 1000000 in
theorem rindex_yes {k : Int} (n : Nat) (w : World) (hk : 1 ≤ k ∧ k ≤ 4) (n1 : 1 ≤ n) (n2 : (n : Int) ≤ 120) (HC0 : ∀ W, Calls Try.prog 16 #[.agg #[.int .i64 k, .int .i64 (n : Int)]] W fun e w' => e = .returned (.int .i64 0) ∧ Below W.heap.size W w') :
    Calls Try.prog 20 #[.agg #[.int .i64 k, .int .i64 (n : Int)]] w fun e w' => e = .returned (.tuple #[.int .i64 (idxN k n : Nat), .int .i64 0]) ∧ Below w.heap.size w w' := by
  have HC := Lib.hid HC0
  have HRo := Lib.hid (r_of n1 (by omega))
  have HBd : Hid (∀ p, 1 ≤ p → p ≤ 120 → rps n p ≤ 7260) := fun p h1 h2 => by
    have := rps_bd n p h1
    have h3 : n * (p + 1) ≤ 120 * 121 := Nat.mul_le_mul (by omega) (by omega)
    omega
  have hn3 : n * n * n ≤ 1728000 := Nat.mul_le_mul (Nat.mul_le_mul (show n ≤ 120 by omega) (show n ≤ 120 by omega)) (show n ≤ 120 by omega)
  have HBf : Hid (∀ p, p ≤ 120 → rpf n p ≤ 1728000) := fun p _ => Nat.le_trans (rpf_bd n p) hn3
  have n1i : 1 ≤ (n : Int) := by omega
  obtain ⟨m2, hm2⟩ : ∃ m2, m2 = n * n := ⟨_, rfl⟩
  have hm2b : m2 ≤ 14400 := by rw [hm2]; exact Nat.mul_le_mul (show n ≤ 120 by omega) (show n ≤ 120 by omega)
  have e2 : (n : Int) * (n : Int) = (m2 : Int) := by rw [hm2]; simp
  obtain ⟨m3, hm3⟩ : ∃ m3, m3 = n * n * n := ⟨_, rfl⟩
  rw [← hm3] at hn3
  have e3 : (m2 : Int) * (n : Int) = (m3 : Int) := by rw [hm3, hm2]; simp
  have HF1 : Hid (rpf n 1 = m3) := by show _ = _; rw [hm3]; rfl
  have hm3i : (m3 : Int) ≤ 1728000 := by omega
  clear HC0 hm2 hm3
  go_enter Try.func20, Try.ntmps20
  go_wp2_with (first
    | (go_at_call 16; ((with_reducible refine (HC.out _).mono ?_); rintro e w1 ⟨rfl, hb⟩; have T1 : Hid (w1.heap[w.heap.size]? = some (.cells #[.int .i64 k, .int .i64 (n : Int)] 24 (0, 0))) := block_below (heap_alloc_new w _) hb; have HB1 : Hid (Below w.heap.size w w1) := bel1 (Below.refl _ _) hb; obtain ⟨⟨t1, t2⟩, _⟩ := two_of_block T1.out; clear hb))
    | fail)
  go_loopw [6, 7, 8, 9, 10] (fun Fv X P _ _ wr => ∃ f x p : Nat, Fv = .int .i64 f ∧ X = .int .i64 x ∧ P = .int .i64 ((p : Int) + 1) ∧ 1 ≤ p ∧ p ≤ n ∧ (x : Int) ≤ 7260 ∧ (f : Int) ≤ 1728000 ∧ Hid (rps n p = x) ∧ Hid (rpf n p = f) ∧ Hid (wr = w1)) (fun _ _ P _ _ _ => (n + 1 - intOf P).toNat)
  case atStart => exact ⟨m3, n, 1, rfl, rfl, rfl, by omega, n1, by omega, hm3i, rfl, HF1.out, rfl⟩
  case round =>
    obtain ⟨f, x, p, rfl, rfl, rfl, p1, p2, hx, hf, HX, HF, HW⟩ := hrel
    obtain ⟨wo, rfl⟩ : ∃ wo : World, wo = wr := ⟨_, rfl⟩
    by_cases hp : p < n
    · have hpi : (p : Int) + 1 ≤ (n : Int) := by omega
      have HS : Hid (rps n (p + 1) = if (n % (p + 1) == 0 && prQ (p + 1) (p + 1)) = true then x / (p + 1) * (p + 2) else x) := by
        show _ = _
        rw [rps, if_neg (by omega), HX.out]
      have HSf : Hid (rpf n (p + 1) = if (n % (p + 1) == 0 && prQ (p + 1) (p + 1)) = true then f / ((p + 1) * (p + 1)) * ((p + 1) * (p + 1) - 1) else f) := by
        show _ = _
        rw [rpf, if_neg (by omega), HF.out]
      have hb := HBd.out (p + 1) (by omega) (by omega)
      have hbf := HBf.out (p + 1) (by omega)
      obtain ⟨t, ht⟩ : ∃ t, t = p + 1 := ⟨_, rfl⟩
      have hti : (p : Int) + 1 = (t : Int) := by omega
      have t2 : 2 ≤ t := by omega
      have t2i : 2 ≤ (t : Int) := by omega
      have ht120 : (t : Int) ≤ 120 := by omega
      have htn : (t : Int) ≤ (n : Int) := by omega
      have HTp : Hid (t = p + 1) := ht
      rw [show p + 2 = t + 1 by omega, ← ht] at HS
      rw [← ht] at hb hbf HSf
      rw [hti]
      clear HX HF hti ht hpi
      go_wp2
      go_loopw [9, 10] (fun B Q wz => ∃ (b : Bool) (q : Nat), B = .bool b ∧ Q = .int .i64 q ∧ 2 ≤ q ∧ q ≤ t ∧ Hid (prQ t q = b) ∧ Hid (wz = wo)) (fun _ Q _ => t - (intOf Q).toNat)
      case atStart => exact ⟨true, 2, rfl, rfl, by omega, t2, by show _ = _; rfl, rfl⟩
      case round =>
        obtain ⟨b, q, rfl, rfl, q2, qt, HQ, HWz⟩ := hrel
        by_cases hq : q < t
        · have hqi : (q : Int) < (t : Int) := by omega
          have HN := Lib.hid (prQ_succ t q)
          rw [HQ.out, decide_eq_false (show ¬ q < 2 by omega), Bool.false_or] at HN
          have hq0 : ((q : Int) == 0) = false := by rw [beq_eq_false_iff_ne]; omega
          have hq1 : 1 ≤ (q : Int) := by omega
          have hcm : (t : Int) % (q : Int) = ((t % q : Nat) : Int) := (Int.natCast_emod t q).symm
          cases b with
          | false =>
            rw [Bool.false_and] at HN
            go_wp2
            go_roundw
            case rel => exact ⟨false, q + 1, rfl, by go_num, by omega, by omega, HN.out, HWz.out⟩
            case measure => simp [intOf]; omega
          | true =>
            rw [Bool.true_and] at HN
            obtain ⟨r, hr⟩ : ∃ r, r = t % q := ⟨_, rfl⟩
            rw [← hr] at HN hcm
            clear hr
            by_cases h0 : r = 0
            · subst h0
              have hb1 : ((t : Int) % (q : Int) != 0) = false := by rw [hcm]; rfl
              clear hcm
              go_wp2
              go_roundw
              case rel => exact ⟨false, q + 1, rfl, by go_num, by omega, by omega, HN.out, HWz.out⟩
              case measure => simp [intOf]; omega
            · have hb1 : ((t : Int) % (q : Int) != 0) = true := by rw [hcm, bne_iff_ne]; omega
              have HN2 : Hid (prQ t (q + 1) = true) := by show _ = _; rw [HN.out, bne_iff_ne]; exact h0
              clear h0 hcm
              go_wp2
              go_roundw
              case rel => exact ⟨true, q + 1, rfl, by go_num, by omega, by omega, HN2.out, HWz.out⟩
              case measure => simp [intOf]; omega
        · obtain rfl : q = t := by omega
          have hq3 : ¬ (q : Int) < (q : Int) := by omega
          have hcm : (n : Int) % (q : Int) = ((n % q : Nat) : Int) := (Int.natCast_emod n q).symm
          have hq0 : ((q : Int) == 0) = false := by rw [beq_eq_false_iff_ne]; omega
          have hq1 : 1 ≤ (q : Int) := by omega
          rw [HQ.out] at HS HSf
          clear HQ
          cases b with
          | false =>
            have HS2 : Hid (rps n (p + 1) = x) := by rw [← HTp.out]; show _ = _; rw [HS.out, Bool.and_false]; rfl
            have HSf2 : Hid (rpf n (p + 1) = f) := by rw [← HTp.out]; show _ = _; rw [HSf.out, Bool.and_false]; rfl
            clear HS HSf hb hbf
            have HPP : Hid ((q : Int) + 1 = ((p + 1 : Nat) : Int) + 1) := by show _ = _; have := HTp.out; omega
            go_wp2
            go_roundw
            case rel => exact ⟨f, x, p + 1, rfl, rfl, by rw [HPP.out], by omega, by omega, by omega, by omega, HS2.out, HSf2.out, HWz.out.trans HW.out⟩
            case measure => simp [intOf]; have := HTp.out; omega
          | true =>
            rw [Bool.and_true] at HS HSf
            have HPP : Hid ((q : Int) + 1 = ((p + 1 : Nat) : Int) + 1) := by show _ = _; have := HTp.out; omega
            obtain ⟨r, hr⟩ : ∃ r, r = n % q := ⟨_, rfl⟩
            rw [← hr] at HS HSf hcm
            clear hr
            by_cases h0 : r = 0
            · subst h0
              have hb1 : ((n : Int) % (q : Int) == 0) = true := by rw [hcm]; rfl
              have HS2 : Hid (rps n q = x / q * (q + 1)) := by show _ = _; rw [HS.out]; rfl
              have HSf2 : Hid (rpf n q = f / (q * q) * (q * q - 1)) := by show _ = _; rw [HSf.out]; rfl
              rw [HS2.out] at hb
              rw [HSf2.out] at hbf
              obtain ⟨Q2, hQ2⟩ : ∃ Q2, Q2 = q * q := ⟨_, rfl⟩
              have hQ4 : 4 ≤ Q2 := by rw [hQ2]; exact Nat.mul_le_mul q2 q2
              have hQu : Q2 ≤ 14400 := by rw [hQ2]; exact Nat.mul_le_mul (show q ≤ 120 by omega) (show q ≤ 120 by omega)
              have hqq : (q : Int) * (q : Int) = (Q2 : Int) := by rw [hQ2]; simp
              rw [← hQ2] at hbf HSf2
              clear hQ2
              have hdf : (f : Int) / (Q2 : Int) = ((f / Q2 : Nat) : Int) := (Int.natCast_ediv _ _).symm
              obtain ⟨yf, hyf⟩ : ∃ yf, yf = f / Q2 := ⟨_, rfl⟩
              have hyfb : (yf : Int) ≤ 1728000 := by have := Nat.div_le_self f Q2; omega
              rw [← hyf] at hdf hbf HSf2
              obtain ⟨zf, hzf⟩ : ∃ zf, zf = yf * (Q2 - 1) := ⟨_, rfl⟩
              have hzfi : (yf : Int) * ((Q2 : Int) - 1) = (zf : Int) := by rw [hzf, Int.natCast_mul, Int.natCast_sub (by omega)]; rfl
              rw [← hzf] at hbf HSf2
              have HSf3 : Hid (rpf n (p + 1) = zf) := by rw [← HTp.out]; exact HSf2.out
              have hzfb : (zf : Int) ≤ 1728000 := by omega
              have hQ0 : ((Q2 : Int) == 0) = false := by rw [beq_eq_false_iff_ne]; omega
              have hQ1 : 1 ≤ (Q2 : Int) := by omega
              have hd : (x : Int) / (q : Int) = ((x / q : Nat) : Int) := (Int.natCast_ediv _ _).symm
              obtain ⟨y, hy⟩ : ∃ y, y = x / q := ⟨_, rfl⟩
              have hyb : (y : Int) ≤ 7260 := by have := Nat.div_le_self x q; omega
              rw [← hy] at hd hb HS2
              obtain ⟨z, hz⟩ : ∃ z, z = y * (q + 1) := ⟨_, rfl⟩
              have hzi : (y : Int) * ((q : Int) + 1) = (z : Int) := by rw [hz, Int.natCast_mul]; rfl
              rw [← hz] at hb HS2
              have HS3 : Hid (rps n (p + 1) = z) := by rw [← HTp.out]; exact HS2.out
              have hzb : (z : Int) ≤ 7260 := by omega
              clear HS HS2 hy hz hb hcm HSf HSf2 hyf hzf hbf
              go_wp2
              go_roundw
              case rel => exact ⟨zf, z, p + 1, rfl, rfl, by rw [HPP.out], by omega, by omega, hzb, hzfb, HS3.out, HSf3.out, HWz.out.trans HW.out⟩
              case measure => simp [intOf]; have := HTp.out; omega
            · have hb1 : ((n : Int) % (q : Int) == 0) = false := by rw [hcm, beq_eq_false_iff_ne]; omega
              have HS2 : Hid (rps n (p + 1) = x) := by rw [← HTp.out]; show _ = _; rw [HS.out, if_neg (by simpa using h0)]
              have HSf2 : Hid (rpf n (p + 1) = f) := by rw [← HTp.out]; show _ = _; rw [HSf.out, if_neg (by simpa using h0)]
              clear HS hb h0 hcm HSf hbf
              go_wp2
              go_roundw
              case rel => exact ⟨f, x, p + 1, rfl, rfl, by rw [HPP.out], by omega, by omega, by omega, by omega, HS2.out, HSf2.out, HWz.out.trans HW.out⟩
              case measure => simp [intOf]; have := HTp.out; omega
    · obtain rfl : p = n := by omega
      have hp3 : ¬ (p : Int) + 1 ≤ (p : Int) := by omega
      have hW : wo = w1 := HW.out
      subst hW
      obtain ⟨r1, r2, r3⟩ := HRo.out
      rw [HX.out] at r1
      rw [HF.out] at r2 r3
      have hp0 : ((p : Int) == 0) = false := by rw [beq_eq_false_iff_ne]; omega
      have hdp : (f : Int) / (p : Int) = ((f / p : Nat) : Int) := (Int.natCast_ediv _ _).symm
      rw [r3] at hdp
      have HI : Hid ((idxN k p : Nat) = if k = 2 then psiN p * phiN p else if k = 3 then psiN p * (phiN p * p) else psiN p) := rfl
      have hu2b := Nat.div_le_self f p
      rw [r3] at hu2b
      generalize psiN p * phiN p = u2 at *
      rw [← r2, ← r1] at HI
      have hu2i : (u2 : Int) ≤ 1728000 := by omega
      clear r1 r2 r3
      obtain rfl | rfl | rfl | rfl : k = 1 ∨ k = 2 ∨ k = 3 ∨ k = 4 := by omega
      · have HJ : Hid (idxN 1 p = x) := HI.out
        go_wp2
        go_ret2
        exact ⟨by rw [HJ.out]; rfl, HB1.out⟩
      · have HJ : Hid (idxN 2 p = u2) := HI.out
        go_wp2
        go_ret2
        exact ⟨by rw [HJ.out]; rfl, HB1.out⟩
      · have HJ : Hid (idxN 3 p = f) := HI.out
        go_wp2
        go_ret2
        exact ⟨by rw [HJ.out]; rfl, HB1.out⟩
      · have HJ : Hid (idxN 4 p = x) := HI.out
        go_wp2
        go_ret2
        exact ⟨by rw [HJ.out]; rfl, HB1.out⟩
/-- The reference's Index. -/
theorem rindex_any (k n : Int) (w : World) : Calls Try.prog 20 #[.agg #[.int .i64 k, .int .i64 n]] w fun e w' => e = .returned (.tuple #[.int .i64 (idxI k n), .int .i64 (gckI k n)]) ∧ Below w.heap.size w w' := by
  by_cases hg : gckI k n = 0
  · have hi : idxI k n = (idxN k n.toNat : Nat) := if_pos hg
    rw [hi, hg]
    rcases gck_cases k n with ⟨_, h2⟩ | ⟨_, _, h2⟩ | ⟨h1, h2, _⟩
    · rw [h2] at hg; exact absurd hg (by decide)
    · rw [h2] at hg; exact absurd hg (by decide)
    · obtain ⟨m, rfl⟩ : ∃ m : Nat, n = (m : Int) := ⟨n.toNat, by omega⟩
      rw [Int.toNat_natCast]
      exact rindex_yes m w h1 (by omega) h2.2 fun W => by rw [← hg]; exact rgcheck_any k m W
  · have hi : idxI k n = 0 := if_neg hg
    rw [hi]
    exact rindex_no w hg fun W => rgcheck_any k n W
end Go.Proofs.Ytilfkppapimocaa
