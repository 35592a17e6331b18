/- What is known of each group of at most 1152 cosets. -/
import Derived.Test.YtmikhkolbkdnpaaSgD1
import Derived.Test.YtmikhkolbkdnpaaSgD2
import Derived.Test.YtmikhkolbkdnpaaGIx
namespace Go.Proofs.Ytmikhkolbkdnpaa
set_option linter.unusedVariables false

theorem three_parts {p : Nat → Bool} (h1 : (List.range 60).all p = true) (h2 : (List.range 35).all (fun k => p (60 + k)) = true) (h3 : (List.range 26).all (fun k => p (95 + k)) = true) {n : Nat} (hn : n ≤ 120) : p n = true := by
  by_cases a : n < 60
  · exact List.all_eq_true.1 h1 n (List.mem_range.2 a)
  · by_cases b : n < 95
    · have := List.all_eq_true.1 h2 (n - 60) (List.mem_range.2 (by omega))
      rwa [show 60 + (n - 60) = n by omega] at this
    · have := List.all_eq_true.1 h3 (n - 95) (List.mem_range.2 (by omega))
      rwa [show 95 + (n - 95) = n by omega] at this
/-- The coset function of a kind of group. -/
noncomputable def kco (k n : Int) : M4 → K4 := if k = 1 then kc1 n else if k = 2 then kc2 n else if k = 3 then kc3 n else kc0 n
/-- What is known of a group of few cosets. -/
structure KF (k n : Int) (N : Nat) : Prop where
  cos : Cos (kco k n)
  fin : SFin (kco k n) N
  ok : ∀ j, j < N → okB ((srun (kco k n) j).L.getD j (0, 0, 0, 0)) = true
  com : ∀ m, bd5 m → dtM m = 1 → CoM k n (kco k n) m
theorem kf_of {k n : Int} (hk : 1 ≤ k ∧ k ≤ 4) (hn : 1 ≤ n ∧ n ≤ 120) (hN : idxN k n.toNat ≤ 1152) : KF k n (idxN k n.toNat) := by
  obtain ⟨m, rfl⟩ : ∃ m : Nat, n = (m : Int) := ⟨n.toNat, by omega⟩
  rw [Int.toNat_natCast] at hN ⊢
  have m1 : 1 ≤ m := by omega
  have m2 : m ≤ 120 := by omega
  have m0 : (m == 0) = false := by simp; omega
  obtain rfl | rfl | rfl | rfl : k = 1 ∨ k = 2 ∨ k = 3 ∨ k = 4 := by omega
  · have e : kco 1 (m : Int) = kc1 m := rfl
    have hi : idxN 1 m = (V1 m).length := by unfold V1; rw [List.length_map, pts_psi m1 m2]; rfl
    rw [hi]
    have hF := kfin1 m1
    refine ⟨e ▸ kos1 hn.1, e ▸ hF, fun j hj => ?_, fun x hb hd => e ▸ kom1 hn.1 hn.2 hb hd⟩
    have hb := three_parts b_one1 b_one2 b_one3 m2
    unfold bOk1 bOk at hb
    rw [m0, Bool.false_or] at hb
    rw [e]
    exact fb_all (mkN m1 fun x => (x.2.2.1, x.2.2.2)) hF.lt hb j hj
  · have e : kco 2 (m : Int) = kc2 m := rfl
    have hi0 : idxN 2 m = psiN m * phiN m := rfl
    have hi : idxN 2 m = (V2 m).length := by rw [v2_len m1 m2 (by rw [← hi0]; exact hN)]; exact hi0
    have hF := kfin2 m1
    rw [← hi] at hF
    refine ⟨e ▸ kos2 _, e ▸ hF, fun j hj => ?_, fun x hb hd => e ▸ kom2 hn.1 hn.2 hb⟩
    have hb := List.all_eq_true.1 b_two m (List.mem_range.2 (by omega))
    unfold bOk2 bOk at hb
    rw [m0, Bool.false_or, Bool.or_eq_true, decide_eq_true_eq] at hb
    rw [hi0] at hN
    rw [e]
    rcases hb with hb | hb
    · omega
    · exact fb_all (mk2 m1) hF.lt hb j hj
  · have e : kco 3 (m : Int) = kc3 m := rfl
    have hi0 : idxN 3 m = psiN m * (phiN m * m) := rfl
    have hi : idxN 3 m = (V4 m).length := by rw [v4_len m1 m2 (by rw [← hi0]; exact hN)]; exact hi0
    have hF := kfin3 m1
    rw [← hi] at hF
    refine ⟨e ▸ kos3 _, e ▸ hF, fun j hj => ?_, fun x hb hd => e ▸ kom3 hn.1 hn.2 hb⟩
    have hb := List.all_eq_true.1 b_three m (List.mem_range.2 (by omega))
    unfold bOk3 bOk at hb
    rw [m0, Bool.false_or, Bool.or_eq_true, decide_eq_true_eq] at hb
    rw [hi0] at hN
    rw [e]
    rcases hb with hb | hb
    · omega
    · exact fb_all (mk3 m1) hF.lt hb j hj
  · have e : kco 4 (m : Int) = kc0 m := rfl
    have hi : idxN 4 m = (V1 m).length := by unfold V1; rw [List.length_map, pts_psi m1 m2]; rfl
    rw [hi]
    have hF := kfin0 m1
    refine ⟨e ▸ kos0 hn.1, e ▸ hF, fun j hj => ?_, fun x hb hd => e ▸ kom0 hn.1 hn.2 hb hd⟩
    have hb := three_parts b_nil1 b_nil2 b_nil3 m2
    unfold bOk0 bOk at hb
    rw [m0, Bool.false_or] at hb
    rw [e]
    exact fb_all (mkN m1 fun x => (x.1, x.2.1)) hF.lt hb j hj
end Go.Proofs.Ytmikhkolbkdnpaa
