/- The search, Of and Representatives for every group. -/
import Derived.Test.YtmikhkolbkdnpaaSgE
import Derived.Test.YtmikhkolbkdnpaaAwakeG
import Derived.Test.YtmikhkolbkdnpaaAcM
namespace Go.Proofs.Ytmikhkolbkdnpaa
open Go.RowKit
set_option linter.unusedVariables false
set_option linter.unusedSimpArgs false

theorem kis_zs (L : List Nat) : is L = zs (iz L) := by simp [is, zs, iz]
/-- The search of a group of few cosets. -/
theorem ksearch {k n : Int} {N : Nat} (h : KF k n N) (hN : N ≤ 1152) (w : World) : Calls Try.prog 48 #[.agg #[.int .i64 k, .int .i64 n]] w fun e w' => ∃ vS vT vl, e = .returned (.tuple #[.agg #[vS, vT], vl]) ∧
      w'.ownsRow w.heap.size 3 1 vS (iz (srun (kco k n) N).S).length (zs (iz (srun (kco k n) N).S)) ∧ w'.ownsRow w.heap.size 3 1 vT (iz (srun (kco k n) N).T).length (zs (iz (srun (kco k n) N).T)) ∧ w'.ownsRow w.heap.size 106 4 vl N (ms (srun (kco k n) N).L) ∧ Below w.heap.size w w' := by
  have hd : ∀ i, i < N → dtM ((srun (kco k n) i).L.getD i (0, 0, 0, 0)) = 1 := fun i hi => (RI.all h.fin.lt i (by omega)).d _ (getD_inM (h.fin.lt i hi))
  have hs := search_any k n (kco k n) N w h.fin.len h.fin.lt (by omega) (fun i hi => (ok_bd (h.ok i hi)).1) (fun i hi => ⟨h.com _ (ok_bd (h.ok i hi)).2.1 (by rw [dtM_S]; exact hd i hi), h.com _ (ok_bd (h.ok i hi)).2.2 (by rw [dtM_T]; exact hd i hi)⟩) (h.com _ (by simp [bd5]) rfl)
  have l1 : (iz (srun (kco k n) N).S).length = N := by rw [iz_len]; exact (srun_len _ N).2.1
  have l2 : (iz (srun (kco k n) N).T).length = N := by rw [iz_len]; exact (srun_len _ N).2.2
  rw [l1, l2]
  rw [kis_zs, kis_zs] at hs
  exact hs
set_option maxHeartbeats 3200000 in
set_option maxRecDepth 1000000 in
theorem of_gen {k n : Int} {S T : List Int} {N : Nat} {xs : List Value} (w : World) (HK0 : ∀ W, Calls Try.prog 47 #[.agg #[.int .i64 k, .int .i64 n]] W fun e w' => e = .returned (.int .i64 0) ∧ Below W.heap.size W w')
    (HS0 : ∀ W, Calls Try.prog 48 #[.agg #[.int .i64 k, .int .i64 n]] W fun e w' => ∃ vS vT vl, e = .returned (.tuple #[.agg #[vS, vT], vl]) ∧ w'.ownsRow W.heap.size 3 1 vS S.length (zs S) ∧ w'.ownsRow W.heap.size 3 1 vT T.length (zs T) ∧ w'.ownsRow W.heap.size 106 4 vl N xs ∧ Below W.heap.size W w') :
    Calls Try.prog 21 #[.agg #[.int .i64 k, .int .i64 n]] w fun e w' => ∃ AS cS AT cT, e = .returned (.tuple #[.agg #[.slice AS S.length cS, .slice AT T.length cT], .int .i64 0]) ∧ RdZ w' w'.heap.size AS cS S ∧ RdZ w' w'.heap.size AT cT T ∧ Below w.heap.size w w' := by
  have HK := Lib.hid HK0
  have HS := Lib.hid HS0
  clear HK0 HS0
  go_enter Try.func21, Try.ntmps21
  go_wp2_with (first
    | (go_at_call 47; ((with_reducible refine (HK.out _).mono ?_); rintro e w1 ⟨rfl, hb⟩; have T1 : Hid (w1.heap[w.heap.size]? = some (.cells #[.int .i64 k, .int .i64 n] 51 (0, 0))) := block_below (block_alloc (heap_alloc_new w _) _) hb; have R1 : Hid (w1.heap[w.heap.size + 1]? = some (.cells #[.slice none 0 0, .slice none 0 0] 24 (0, 0))) := block_below (by have := heap_alloc_new (w.alloc (.cells #[.int .i64 k, .int .i64 n] 51)) (.cells #[.slice none 0 0, .slice none 0 0] 24); simpa using this) hb; have HB1 : Hid (Below w.heap.size w w1) := bel2 (Below.refl _ _) hb; obtain ⟨⟨t1, t2⟩, _⟩ := two_of_block T1.out; have hz1 := lt_of_block R1.out; clear hb))
    | (go_at_call 48; ((with_reducible refine (HS.out _).mono ?_); rintro e w2 ⟨vS, vT, vl, rfl, hS, hT, hL, hb⟩; obtain ⟨AS, cS, rfl⟩ := own_len hS; obtain ⟨AT, cT, rfl⟩ := own_len hT; obtain ⟨AL, cL, rfl⟩ := own_len hL; have OS := Lib.hid hS; have OT := Lib.hid hT; have R2 : Hid (w2.heap[w.heap.size + 1]? = some (.cells #[.slice none 0 0, .slice none 0 0] 24 (0, 0))) := block_below R1.out hb; have HB2 : Hid (Below w.heap.size w w2) := bel0 HB1.out hb; obtain ⟨⟨k1, k2⟩, fz⟩ := two_of_block R2.out; have f1 := fz 0; have f2 := fz 1; have hz2 := lt_of_block R2.out; clear hb hS hT hL t1 t2 fz))
    | fail)
  obtain ⟨HR1, HR2⟩ := of_world (S := S) (T := T) hz1 (.cells #[.slice AS S.length cS, .slice AT T.length cT] 24) (.slice AS S.length cS) (.slice AT T.length cT) OS.out OT.out
  obtain ⟨⟨r1, r2⟩, _⟩ := two_of_block (block_alloc (two_set1 (two_set0 R2.out (.slice AS S.length cS)) (.slice AT T.length cT)) (.cells #[.slice AS S.length cS, .slice AT T.length cT] 24))
  refine bodyPost_ret (v := .tuple #[.agg #[.slice AS S.length cS, .slice AT T.length cT], .int .i64 0]) ?_ rfl ⟨AS, cS, AT, cT, rfl, HR1, HR2, (below_set2 HB2.out (Nat.le_succ _) _ _).trans ((below1 _ _).mono (by have := HB2.out.size; simpa using this))⟩
  simp [results, Try.results21, go_sem, r1, r2]
set_option maxHeartbeats 3200000 in
set_option maxRecDepth 1000000 in
theorem of_bad {k n z : Int} (w : World) (hz : z ≠ 0) (HK0 : ∀ W, Calls Try.prog 47 #[.agg #[.int .i64 k, .int .i64 n]] W fun e w' => e = .returned (.int .i64 z) ∧ Below W.heap.size W w') :
    Calls Try.prog 21 #[.agg #[.int .i64 k, .int .i64 n]] w fun e w' => e = .returned (.tuple #[.agg #[.slice none 0 0, .slice none 0 0], .int .i64 z]) ∧ Below w.heap.size w w' := by
  have HK := Lib.hid HK0
  have hzb : (z == 0) = false := by simpa using hz
  clear HK0
  go_enter Try.func21, Try.ntmps21
  go_wp2_with (first
    | (go_at_call 47; ((with_reducible refine (HK.out _).mono ?_); rintro e w1 ⟨rfl, hb⟩; have R1 : Hid (w1.heap[w.heap.size + 1]? = some (.cells #[.slice none 0 0, .slice none 0 0] 24 (0, 0))) := block_below (by have := heap_alloc_new (w.alloc (.cells #[.int .i64 k, .int .i64 n] 51)) (.cells #[.slice none 0 0, .slice none 0 0] 24); simpa using this) hb; have HB1 : Hid (Below w.heap.size w w1) := bel2 (Below.refl _ _) hb; obtain ⟨⟨k1, k2⟩, fz⟩ := two_of_block R1.out; have f1 := fz 0; have f2 := fz 1; have hz1 := lt_of_block R1.out; clear hb fz))
    | fail)
  obtain ⟨⟨r1, r2⟩, _⟩ := two_of_block (two_set1 (two_set0 R1.out (.slice none 0 0)) (.slice none 0 0))
  refine bodyPost_ret (v := .tuple #[.agg #[.slice none 0 0, .slice none 0 0], .int .i64 z]) ?_ rfl ⟨rfl, below_set2 HB1.out (Nat.le_succ _) _ _⟩
  simp [results, Try.results21, go_sem, r1, r2]
/-- The lists of a group's action. -/
noncomputable def olS (k n : Int) : List Int := iz (srun (kco k n) (idxN k n.toNat)).S
noncomputable def olT (k n : Int) : List Int := iz (srun (kco k n) (idxN k n.toNat)).T
theorem ckx_kf {k n : Int} (h : ckxI k n = 0) : KF k n (idxN k n.toNat) ∧ idxN k n.toNat ≤ 1152 ∧ gckI k n = 0 := by
  have hg : gckI k n = 0 := by
    unfold ckxI at h
    by_cases hg : gckI k n = 0
    · exact hg
    · rw [if_neg hg] at h; exact absurd h hg
  have hi : idxI k n = (idxN k n.toNat : Nat) := if_pos hg
  have hN : idxN k n.toNat ≤ 1152 := by
    unfold ckxI at h
    rw [if_pos hg, hi] at h
    by_cases h9 : 1152 < ((idxN k n.toNat : Nat) : Int)
    · rw [if_pos h9] at h; exact absurd h (by decide)
    · omega
  rcases gck_cases k n with ⟨_, h2⟩ | ⟨_, _, h2⟩ | ⟨h1, h2, _⟩
  · rw [h2] at hg; exact absurd hg (by decide)
  · rw [h2] at hg; exact absurd hg (by decide)
  · exact ⟨kf_of h1 h2 hN, hN, hg⟩
theorem ol_len {k n : Int} : (olS k n).length = idxN k n.toNat ∧ (olT k n).length = idxN k n.toNat := by
  unfold olS olT
  rw [iz_len, iz_len]
  exact ⟨(srun_len _ _).2.1, (srun_len _ _).2.2⟩
theorem ol_act {k n : Int} (h : ckxI k n = 0) : Act2 (olS k n) (olT k n) := by
  obtain ⟨hF, hN, _⟩ := ckx_kf h
  exact hF.fin.act hF.cos hN
theorem of_ok {k n : Int} (h : ckxI k n = 0) (w : World) : Calls Try.prog 21 #[.agg #[.int .i64 k, .int .i64 n]] w fun e w' => ∃ AS cS AT cT, e = .returned (.tuple #[.agg #[.slice AS (olS k n).length cS, .slice AT (olT k n).length cT], .int .i64 0]) ∧ RdZ w' w'.heap.size AS cS (olS k n) ∧ RdZ w' w'.heap.size AT cT (olT k n) ∧ Below w.heap.size w w' := by
  obtain ⟨hF, hN, _⟩ := ckx_kf h
  exact of_gen w (fun W => by rw [← h]; exact ckx_any k n W) (fun W => ksearch hF hN W)
theorem of_err {k n : Int} (h : ckxI k n ≠ 0) (w : World) : Calls Try.prog 21 #[.agg #[.int .i64 k, .int .i64 n]] w fun e w' => e = .returned (.tuple #[.agg #[.slice none 0 0, .slice none 0 0], .int .i64 (ckxI k n)]) ∧ Below w.heap.size w w' :=
  of_bad w h fun W => ckx_any k n W
end Go.Proofs.Ytmikhkolbkdnpaa
