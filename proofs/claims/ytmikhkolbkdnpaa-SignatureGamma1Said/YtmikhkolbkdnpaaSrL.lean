/- The contract of the search for the cosets. -/
import Derived.Test.YtmikhkolbkdnpaaSrP
import Derived.Test.YtmikhkolbkdnpaaHeadT
import Derived.IntWalk
namespace Go.Proofs.Ytmikhkolbkdnpaa
open Go.RowKit
open Go.Maps (Keyed)
set_option linter.unusedVariables false
set_option linter.unusedSimpArgs false

set_option maxHeartbeats 6400000 in
set_option maxRecDepth 1000000 in
theorem search_any (k n : Int) (co : M4 → K4) (N : Nat) (w : World) (hN : (srun co N).L.length = N) (hlt : ∀ i, i < N → i < (srun co i).L.length) (hN2 : N ≤ 2000) (hb : ∀ i, i < N → bd4 ((srun co i).L.getD i (0, 0, 0, 0)))
    (hco : ∀ i, i < N → CoM k n co (mS ((srun co i).L.getD i (0, 0, 0, 0))) ∧ CoM k n co (mT ((srun co i).L.getD i (0, 0, 0, 0)))) (hone : CoM k n co (1, 0, 0, 1)) :
    Calls Try.prog 48 #[.agg #[.int .i64 k, .int .i64 n]] w fun e w' => ∃ vS vT vl, e = .returned (.tuple #[.agg #[vS, vT], vl]) ∧
      w'.ownsRow w.heap.size 3 1 vS N (is (srun co N).S) ∧ w'.ownsRow w.heap.size 3 1 vT N (is (srun co N).T) ∧ w'.ownsRow w.heap.size 106 4 vl N (ms (srun co N).L) ∧ Below w.heap.size w w' := by
  obtain ⟨i0, hi, z0, z1, z2⟩ := info_parts infoI
  obtain ⟨i1, hj, y0, y1, y2⟩ := info_parts infoMat
  have HC := Lib.hid (fun W => hone.c W)
  have HKey := Lib.hid (key_of hone.wf)
  obtain ⟨⟨x1, x2, x3, x4⟩, hx⟩ : ∃ x, x = co (1, 0, 0, 1) := ⟨_, rfl⟩
  rw [← hx] at HC HKey
  have HX := Lib.hid hx
  clear hx
  have hmm := @run_makeMap Try.prog
  have HOp := Lib.hid (w6_at w k n).2.2.2.2.1
  go_enter Try.func48, Try.ntmps48
  go_wp2_with (first
    | (go_at_call 72; ((with_reducible refine (HC.out _).mono ?_); rintro e w1 ⟨rfl, hb⟩; have HB1 : Hid (Below (w6 w k n).heap.size (w6 w k n) w1) := hb; have HO1 := Lib.hid (map_below HOp.out hb); clear hb))
    | (refine wpList_insert_own _ rfl _ _ _ 109 rfl 107 3 law4 Try.underlying109 _ (w.heap.size + 1 + 1 + 1 + 1 + 1) 0 (.map []) rfl HO1.out (by decide) (kv (x1, x2, x3, x4)) _ (kl (x1, x2, x3, x4)) rfl rfl HKey.out (.lit (.int .i64 0)) [] (plainElem_int Try.underlying3 (by decide)) ?_; intro w2 hown2 hg2; have HO2 := Lib.hid hown2; have HG2 := Lib.hid hg2; clear hown2 hg2)
    | fail)
  have HSt : Hid (SW w ((w2.alloc (.cells #[.map (some (w.heap.size + 1 + 1 + 1 + 1 + 1))] 109)).alloc (.cells #[.slice none 0 0, .slice none 0 0] 24)) w2.heap.size (w2.heap.size + 1) k n (srun co 0) (.slice (some ⟨w.heap.size + 1 + 1 + 1, 0, none⟩) 1 1) (.slice none 0 0) (.slice none 0 0)) := by
    have hw : wf4 (x1, x2, x3, x4) := by rw [HX.out]; exact hone.wf
    have e : srun co 0 = ⟨[(x1, x2, x3, x4)], [(1, 0, 0, 1)], [], []⟩ := by rw [HX.out]; rfl
    have := sw_start HB1.out HO2.out (MD.nil.put hw rfl) HG2.out
    rw [e]
    exact Lib.hid this
  go_loopw [9, 10] (fun I _ wr => ∃ (i : Nat) (vl vS vT : Value), I = .int .i64 (i : Nat) ∧ i ≤ N ∧ Hid (SW w wr w2.heap.size (w2.heap.size + 1) k n (srun co i) vl vS vT)) (fun I _ _ => N - (intOf I).toNat)
  case atStart => exact ⟨0, _, _, _, rfl, Nat.zero_le _, HSt.out⟩
  case round =>
    obtain ⟨i, vl, vS, vT, rfl, hiN, HS⟩ := hrel
    by_cases hlt' : i < N
    · have hil := hlt i hlt'
      obtain ⟨l1, l2, l3⟩ := srun_len co i
      have l4 := srun_le co i
      have HNx : Hid (srun co (i + 1) = ((srun co i).vs co (mS ((srun co i).L.getD i (0, 0, 0, 0)))).vt co (mT ((srun co i).L.getD i (0, 0, 0, 0)))) := rfl
      have hbd := hb i hlt'
      have hcm := hco i hlt'
      rw [getD_at hil] at hbd hcm HNx
      obtain ⟨s2, hs2⟩ : ∃ s2, s2 = srun co (i + 1) := ⟨_, rfl⟩
      have HS2 := Lib.hid hs2
      rw [← hs2] at HNx
      clear hs2
      generalize srun co i = s at *
      obtain ⟨K, L, S, T⟩ := s
      have hKL : K.length = L.length := l1
      have hK4 : K.length ≤ 2 * i + 1 := l4
      have hSl : S.length = i := l2
      have hTl3 : T.length = i := l3
      have hTl2 : T.length ≤ 2000 := by omega
      have HTl := Lib.hid hTl3
      clear hTl3
      have hil' : i < L.length := hil
      have HSv := HS.out.v
      have hrow : wr.ownsRow w.heap.size 106 4 vl K.length (ms L) := HSv.row
      rw [hKL] at hrow
      obtain ⟨g, cap, rfl, hg, r1, r2, r3, r4⟩ := row_at hrow hil'
      have lc := cell_of_one HSv.l
      have hzl := lt_of_block HSv.l
      have hzi : (i : Int) < (L.length : Int) := by omega
      have HCS := Lib.hid hcm.1
      have HCT := Lib.hid hcm.2
      have hbd' : bd4 L[i] := hbd
      have hCS : CoM k n co (mS L[i]) := hcm.1
      have hCT : CoM k n co (mT L[i]) := hcm.2
      clear hcm HCS HCT hbd hrow HSv
      obtain ⟨⟨a, b, c, d⟩, hm⟩ : ∃ m, m = L[i] := ⟨_, rfl⟩
      have HNx' : Hid (s2 = (SSt.vs co ⟨K, L, S, T⟩ (mS (L[i]))).vt co (mT (L[i]))) := HNx
      clear HNx
      rw [← hm] at r1 r2 r3 r4 hbd' hCS hCT HNx'
      simp only at r1 r2 r3 r4
      obtain ⟨⟨a1, a2⟩, ⟨b1, b2⟩, ⟨c1, c2⟩, ⟨d1, d2⟩⟩ : (-1000000000 ≤ a ∧ a ≤ 1000000000) ∧ (-1000000000 ≤ b ∧ b ≤ 1000000000) ∧ (-1000000000 ≤ c ∧ c ≤ 1000000000) ∧ (-1000000000 ≤ d ∧ d ≤ 1000000000) := hbd'
      clear hm hil
      clear l1 l2 l3 l4
      subst hSl
      have hHz := HS.out.v.bs
      have HM0 : Hid (SM w (wr.alloc (.cells #[.int .i64 a, .int .i64 b, .int .i64 c, .int .i64 d] 106)) w2.heap.size (w2.heap.size + 1) wr.heap.size k n ⟨K, L, S, T⟩ (.slice (some ⟨g, 0, none⟩) L.length cap) vS vT (a, b, c, d)) :=
        ⟨⟨HS.out.v.below (below1 _ _), HS.out.a.below (below1 _ _), HS.out.bel.trans ((below1 _ _).mono hHz), block_alloc HS.out.res _, HS.out.nb⟩, Four.at wr rfl a b c d, fun e => (by have h9 : g = wr.heap.size := (by simpa [Value.ownBlock] using e); omega), hHz⟩
      have hKl : K.length < 100000 := by omega
      have hKl2 := kNext_le K (co (mS (a, b, c, d)))
      have HNe : Hid (s2 = ⟨kNext (kNext K (co (mS (a, b, c, d)))) (co (mT (a, b, c, d))), lNext (kNext K (co (mS (a, b, c, d)))) (co (mT (a, b, c, d))) (lNext K (co (mS (a, b, c, d))) L (mS (a, b, c, d))) (mT (a, b, c, d)), S ++ [(kNext K (co (mS (a, b, c, d)))).idxOf (co (mS (a, b, c, d)))], T ++ [(kNext (kNext K (co (mS (a, b, c, d)))) (co (mT (a, b, c, d)))).idxOf (co (mT (a, b, c, d)))]⟩) := HNx'.out
      clear HNx'
      have HV1 : Hid (∀ W, SM w W w2.heap.size (w2.heap.size + 1) wr.heap.size k n ⟨K, L, S, T⟩ (.slice (some ⟨g, 0, none⟩) L.length cap) vS vT (a, b, c, d) →
          Calls Try.prog 73 #[.agg #[.int .i64 b, .int .i64 (-a), .int .i64 d, .int .i64 (-c)], .pointer (some ⟨w.heap.size, 0, none⟩), .pointer (some ⟨w2.heap.size, 0, none⟩), .pointer (some ⟨w.heap.size + 1 + 1 + 1 + 1, 0, none⟩)] W fun e w' => ∃ vl', e = .returned (.int .i64 ((kNext K (co (mS (a, b, c, d)))).idxOf (co (mS (a, b, c, d))) : Nat)) ∧
            SM w w' w2.heap.size (w2.heap.size + 1) wr.heap.size k n ⟨kNext K (co (mS (a, b, c, d))), lNext K (co (mS (a, b, c, d))) L (mS (a, b, c, d)), S, T⟩ vl' vS vT (a, b, c, d)) := fun W h => visit_sm hCS hKl W h
      go_upto_region 10 with fail
      generalize (kNext K (co (mS (a, b, c, d)))).idxOf (co (mS (a, b, c, d))) = x at *
      generalize kNext K (co (mS (a, b, c, d))) = K1 at *
      generalize lNext K (co (mS (a, b, c, d))) L (mS (a, b, c, d)) = L1 at *
      have hSl2 : S.length ≤ 2000 := by omega
      obtain ⟨W1, hW1⟩ : ∃ W1, W1 = wr.alloc (.cells #[.int .i64 a, .int .i64 b, .int .i64 c, .int .i64 d] 106) := ⟨_, rfl⟩
      go_cut [10] (fun s10 wx => s10 = .pointer (some ⟨wr.heap.size, 0, none⟩) ∧ ∃ vl' vS', Hid (SM w wx w2.heap.size (w2.heap.size + 1) wr.heap.size k n ⟨K1, L1, S ++ [x], T⟩ vl' vS' vT (a, b, c, d)))
      case first =>
        have M_0 := Lib.hid HM0.out.drew
        have q0 := (two_of_block HS.out.a.a).1.1
        have hzb := lt_of_block HS.out.a.a
        have q0' := M_0.out.cells.1.1
        have u1 : IntKind.i64.wrap (-a) = -a := IntWalk.i64_in _ (by omega)
        have u2 : IntKind.i64.wrap (-c) = -c := IntWalk.i64_in _ (by omega)
        refine region_E 16 (fun w' => w'.cell? ⟨w2.heap.size + 1, 0, none⟩ = some vS ∧ (w'.cell? ⟨wr.heap.size, 0, none⟩ = some (.int .i64 a) ∧ w'.cell? ⟨wr.heap.size, 1, none⟩ = some (.int .i64 b) ∧ w'.cell? ⟨wr.heap.size, 2, none⟩ = some (.int .i64 c) ∧ w'.cell? ⟨wr.heap.size, 3, none⟩ = some (.int .i64 d))) (by kernel_rfl) ?_
        have hHeld := (⟨(SM.cells M_0.out).1.1, (SM.cells M_0.out).2⟩ : _ ∧ _)
        refine take_E (n := 16) (i := 0) (v := ?v16_0) rfl (by kernel_rfl) (fun _ _ _ h => h) ?hy16_0 (by rfl) hHeld ?rest16_0
        case hy16_0 => (intro w9 hSw; (try dsimp only at hSw); go_simp <;> with_reducible rfl)
        (try simp only [Act.put, List.setIfInBounds_toArray, List.set_cons_zero, List.set_cons_succ])
        refine take_E (n := 16) (i := 1) (v := ?v16_1) rfl (by kernel_rfl) (fun _ _ _ h => h) ?hy16_1 (by rfl) hHeld ?rest16_1
        case hy16_1 => (intro w9 hSw; (try dsimp only at hSw); go_simp <;> with_reducible rfl)
        (try simp only [Act.put, List.setIfInBounds_toArray, List.set_cons_zero, List.set_cons_succ])
        refine take_E (n := 16) (i := 2) (v := ?v16_2) rfl (by kernel_rfl) (fun _ _ _ h => h) ?hy16_2 (by rfl) hHeld ?rest16_2
        case hy16_2 => (intro w9 hSw; (try dsimp only at hSw); go_simp <;> with_reducible rfl)
        (try simp only [Act.put, List.setIfInBounds_toArray, List.set_cons_zero, List.set_cons_succ])
        refine take_E (n := 16) (i := 3) (v := ?v16_3) rfl (by kernel_rfl) (fun _ _ _ h => h) ?hy16_3 (by rfl) hHeld ?rest16_3
        case hy16_3 => (intro w9 hSw; (try dsimp only at hSw); go_simp <;> with_reducible rfl)
        (try simp only [Act.put, List.setIfInBounds_toArray, List.set_cons_zero, List.set_cons_succ])
        refine take_E (n := 16) (i := 4) (v := ?v16_4) rfl (by kernel_rfl) (fun _ _ _ h => h) ?hy16_4 (by rfl) hHeld ?rest16_4
        case hy16_4 => (intro w9 hSw; (try dsimp only at hSw); go_simp <;> with_reducible rfl)
        (try simp only [Act.put, List.setIfInBounds_toArray, List.set_cons_zero, List.set_cons_succ])
        refine take_E (n := 16) (i := 5) (v := ?v16_5) rfl (by kernel_rfl) (fun _ _ _ h => h) ?hy16_5 (by rfl) hHeld ?rest16_5
        case hy16_5 => (intro w9 hSw; (try dsimp only at hSw); go_simp <;> with_reducible rfl)
        (try simp only [Act.put, List.setIfInBounds_toArray, List.set_cons_zero, List.set_cons_succ])
        refine take_E (n := 16) (i := 6) (v := ?v16_6) rfl (by kernel_rfl) (fun _ _ _ h => h) ?hy16_6 (by rfl) hHeld ?rest16_6
        case hy16_6 => (intro w9 hSw; (try dsimp only at hSw); go_simp <;> with_reducible rfl)
        (try simp only [Act.put, List.setIfInBounds_toArray, List.set_cons_zero, List.set_cons_succ])
        refine take_E (n := 16) (i := 7) (v := ?v16_7) rfl (by kernel_rfl) (fun _ _ _ h => h) ?hy16_7 (by rfl) hHeld ?rest16_7
        case hy16_7 => (intro w9 hSw; (try dsimp only at hSw); go_simp <;> with_reducible rfl)
        (try simp only [Act.put, List.setIfInBounds_toArray, List.set_cons_zero, List.set_cons_succ])
        refine take_E (n := 16) (i := 8) (v := ?v16_8) rfl (by kernel_rfl) (fun _ _ _ h => h) ?hy16_8 (by rfl) hHeld ?rest16_8
        case hy16_8 => (intro w9 hSw; (try dsimp only at hSw); go_simp <;> with_reducible rfl)
        (try simp only [Act.put, List.setIfInBounds_toArray, List.set_cons_zero, List.set_cons_succ])
        refine take_E (n := 16) (i := 9) (v := ?v16_9) rfl (by kernel_rfl) (fun _ _ _ h => h) ?hy16_9 (by rfl) hHeld ?rest16_9
        case hy16_9 => (intro w9 hSw; (try dsimp only at hSw); go_simp <;> with_reducible rfl)
        (try simp only [Act.put, List.setIfInBounds_toArray, List.set_cons_zero, List.set_cons_succ])
        refine take_E (n := 16) (i := 10) (v := ?v16_10) rfl (by kernel_rfl) (fun _ _ _ h => h) ?hy16_10 (by rfl) hHeld ?rest16_10
        case hy16_10 => (intro w9 hSw; (try dsimp only at hSw); go_simp <;> with_reducible rfl)
        (try simp only [Act.put, List.setIfInBounds_toArray, List.set_cons_zero, List.set_cons_succ])
        refine take_E (n := 16) (i := 11) (v := ?v16_11) rfl (by kernel_rfl) (fun _ _ _ h => h) ?hy16_11 (by rfl) hHeld ?rest16_11
        case hy16_11 => (intro w9 hSw; (try dsimp only at hSw); go_simp <;> with_reducible rfl)
        (try simp only [Act.put, List.setIfInBounds_toArray, List.set_cons_zero, List.set_cons_succ])
        refine take_E (n := 16) (i := 12) (v := ?v16_12) rfl (by kernel_rfl) (fun _ _ _ h => h) ?hy16_12 (by rfl) hHeld ?rest16_12
        case hy16_12 => (intro w9 hSw; (try dsimp only at hSw); go_simp <;> with_reducible rfl)
        (try simp only [Act.put, List.setIfInBounds_toArray, List.set_cons_zero, List.set_cons_succ])
        refine take_E (n := 16) (i := 13) (v := ?v16_13) rfl (by kernel_rfl) (fun _ _ _ h => h) ?hy16_13 (by rfl) hHeld ?rest16_13
        case hy16_13 => (intro w9 hSw; (try dsimp only at hSw); go_simp <;> with_reducible rfl)
        (try simp only [Act.put, List.setIfInBounds_toArray, List.set_cons_zero, List.set_cons_succ])
        refine one_E (n := 16) (i := 14) (by kernel_rfl) rfl (fun K hK => ?_)
        go_simp
        go_at_call 73
        refine (HV1.out _ M_0.out).mono ?_
        rintro e p1 ⟨vl1, rfl, hM⟩
        have M_1 := Lib.hid hM
        have q1 := M_1.out.cells.1.1
        have hz1 := lt_of_block M_1.out.s.a.a
        clear hM
        refine hK.out _ _ (fun _ => ⟨(SM.cells M_1.out).1.1, (SM.cells M_1.out).2⟩) (fun hHeld14 => ?_)
        clear hK K
        (try simp only [Act.put, List.setIfInBounds_toArray, List.set_cons_zero, List.set_cons_succ])
        refine one_E (n := 16) (i := 15) (by kernel_rfl) rfl (fun K hK => ?_)
        go_simp
        refine hK.out _ _ (fun _ => ⟨(SM.cells (SM.alloc M_1.out _)).1.1, (SM.cells (SM.alloc M_1.out _)).2⟩) (fun hHeld15 => ?_)
        clear hK K
        (try simp only [Act.put, List.setIfInBounds_toArray, List.set_cons_zero, List.set_cons_succ])
        refine one_E (n := 16) (i := 16) (by kernel_rfl) rfl (fun K hK => ?_)
        refine step_append_lies _ (by rfl) _ _ _ (by rfl) w.heap.size 3 i0 _ 1 8 Try.underlying22 hi z0 z1 z2 rfl (by omega) vS S.length (is S) (by rfl) (SM.alloc M_1.out _).s.a.rS ⟨p1.heap.size, 0, none⟩ 1 1 [.int .i64 (x : Nat)] (by rfl) (by rfl) (World.news_of_block (cs := #[.int .i64 (x : Nat)]) (t := 3) (fr := (0, 0)) (heap_alloc_new p1 _)) (by simp [Value.oneCell']) (by omega) (by unfold maxLen; omega) (by omega) (SM.alloc M_1.out _).s.v.bs (p1.heap.size + 1) (by simp) ?_
        intro gg cap' p2 hown2 hgrow hat hlt3
        have HA2 := Lib.hid ((SM.alloc M_1.out _).app (.inl rfl) hgrow)
        have HE2 := Lib.hid (SM.pushS (SM.alloc M_1.out _) hown2 hgrow (by simpa using hat))
        have fz := (two_of_block HA2.out.1).2
        have qz := (two_of_block HA2.out.1).1
        clear hown2 hgrow hat
        refine hK.out _ _ (fun h => absurd h (by decide)) (fun hHeld16 => ?_)
        clear hK K
        (try simp only [Act.put, List.setIfInBounds_toArray, List.set_cons_zero, List.set_cons_succ])
        refine one_E (n := 16) (i := 17) (by kernel_rfl) rfl (fun K hK => ?_)
        go_simp
        refine hK.out _ _ (fun h => absurd h (by decide)) (fun hHeld17 => ?_)
        clear hK K
        (try simp only [Act.put, List.setIfInBounds_toArray, List.set_cons_zero, List.set_cons_succ])
        refine one_E (n := 16) (i := 18) (by kernel_rfl) rfl (fun K hK => ?_)
        go_simp
        refine hK.out _ _ (fun h => absurd h (by decide)) (fun hHeld18 => ?_)
        clear hK K
        (try simp only [Act.put, List.setIfInBounds_toArray, List.set_cons_zero, List.set_cons_succ])
        refine done_E (by kernel_rfl) ?_ _
        go_wp2_with fail
        go_meet
        exact ⟨rfl, _, _, HE2.out⟩
      case rest =>
        obtain ⟨rfl, vl', vS', HM1⟩ := hcut
        clear HM0 HV1 hCS
        have HV2 : Hid (∀ W, SM w W w2.heap.size (w2.heap.size + 1) wr.heap.size k n ⟨K1, L1, S ++ [x], T⟩ vl' vS' vT (a, b, c, d) →
          Calls Try.prog 73 #[.agg #[.int .i64 a, .int .i64 (a + b), .int .i64 c, .int .i64 (c + d)], .pointer (some ⟨w.heap.size, 0, none⟩), .pointer (some ⟨w2.heap.size, 0, none⟩), .pointer (some ⟨w.heap.size + 1 + 1 + 1 + 1, 0, none⟩)] W fun e w' => ∃ vl', e = .returned (.int .i64 ((kNext K1 (co (mT (a, b, c, d)))).idxOf (co (mT (a, b, c, d))) : Nat)) ∧
            SM w w' w2.heap.size (w2.heap.size + 1) wr.heap.size k n ⟨kNext K1 (co (mT (a, b, c, d))), lNext K1 (co (mT (a, b, c, d))) L1 (mT (a, b, c, d)), S ++ [x], T⟩ vl' vS' vT (a, b, c, d)) := fun W h => visit_sm hCT (by omega) W h
        generalize (kNext K1 (co (mT (a, b, c, d)))).idxOf (co (mT (a, b, c, d))) = y at *
        generalize kNext K1 (co (mT (a, b, c, d))) = K2 at *
        generalize lNext K1 (co (mT (a, b, c, d))) L1 (mT (a, b, c, d)) = L2 at *
        clear hCT
        go_upto_region 11 with fail
        have M_0 := Lib.hid HM1.out.drew
        have q0 := (two_of_block HM1.out.s.a.a).1.2
        have hzb := lt_of_block HM1.out.s.a.a
        have q0' := M_0.out.cells.1.2
        have u1 : IntKind.i64.wrap (a + b) = a + b := IntWalk.i64_in _ (by omega)
        have u2 : IntKind.i64.wrap (c + d) = c + d := IntWalk.i64_in _ (by omega)
        refine region_E 20 (fun w' => w'.cell? ⟨w2.heap.size + 1, 1, none⟩ = some vT ∧ (w'.cell? ⟨wr.heap.size, 0, none⟩ = some (.int .i64 a) ∧ w'.cell? ⟨wr.heap.size, 1, none⟩ = some (.int .i64 b) ∧ w'.cell? ⟨wr.heap.size, 2, none⟩ = some (.int .i64 c) ∧ w'.cell? ⟨wr.heap.size, 3, none⟩ = some (.int .i64 d))) (by kernel_rfl) ?_
        have hHeld := (⟨(SM.cells M_0.out).1.2, (SM.cells M_0.out).2⟩ : _ ∧ _)
        refine take_E (n := 20) (i := 0) (v := ?v20_0) rfl (by kernel_rfl) (fun _ _ _ h => h) ?hy20_0 (by rfl) hHeld ?rest20_0
        case hy20_0 => (intro w9 hSw; (try dsimp only at hSw); go_simp <;> with_reducible rfl)
        (try simp only [Act.put, List.setIfInBounds_toArray, List.set_cons_zero, List.set_cons_succ])
        refine take_E (n := 20) (i := 1) (v := ?v20_1) rfl (by kernel_rfl) (fun _ _ _ h => h) ?hy20_1 (by rfl) hHeld ?rest20_1
        case hy20_1 => (intro w9 hSw; (try dsimp only at hSw); go_simp <;> with_reducible rfl)
        (try simp only [Act.put, List.setIfInBounds_toArray, List.set_cons_zero, List.set_cons_succ])
        refine take_E (n := 20) (i := 2) (v := ?v20_2) rfl (by kernel_rfl) (fun _ _ _ h => h) ?hy20_2 (by rfl) hHeld ?rest20_2
        case hy20_2 => (intro w9 hSw; (try dsimp only at hSw); go_simp <;> with_reducible rfl)
        (try simp only [Act.put, List.setIfInBounds_toArray, List.set_cons_zero, List.set_cons_succ])
        refine take_E (n := 20) (i := 3) (v := ?v20_3) rfl (by kernel_rfl) (fun _ _ _ h => h) ?hy20_3 (by rfl) hHeld ?rest20_3
        case hy20_3 => (intro w9 hSw; (try dsimp only at hSw); go_simp <;> with_reducible rfl)
        (try simp only [Act.put, List.setIfInBounds_toArray, List.set_cons_zero, List.set_cons_succ])
        refine take_E (n := 20) (i := 4) (v := ?v20_4) rfl (by kernel_rfl) (fun _ _ _ h => h) ?hy20_4 (by rfl) hHeld ?rest20_4
        case hy20_4 => (intro w9 hSw; (try dsimp only at hSw); go_simp <;> with_reducible rfl)
        (try simp only [Act.put, List.setIfInBounds_toArray, List.set_cons_zero, List.set_cons_succ])
        refine take_E (n := 20) (i := 5) (v := ?v20_5) rfl (by kernel_rfl) (fun _ _ _ h => h) ?hy20_5 (by rfl) hHeld ?rest20_5
        case hy20_5 => (intro w9 hSw; (try dsimp only at hSw); go_simp <;> with_reducible rfl)
        (try simp only [Act.put, List.setIfInBounds_toArray, List.set_cons_zero, List.set_cons_succ])
        refine take_E (n := 20) (i := 6) (v := ?v20_6) rfl (by kernel_rfl) (fun _ _ _ h => h) ?hy20_6 (by rfl) hHeld ?rest20_6
        case hy20_6 => (intro w9 hSw; (try dsimp only at hSw); go_simp <;> with_reducible rfl)
        (try simp only [Act.put, List.setIfInBounds_toArray, List.set_cons_zero, List.set_cons_succ])
        refine take_E (n := 20) (i := 7) (v := ?v20_7) rfl (by kernel_rfl) (fun _ _ _ h => h) ?hy20_7 (by rfl) hHeld ?rest20_7
        case hy20_7 => (intro w9 hSw; (try dsimp only at hSw); go_simp <;> with_reducible rfl)
        (try simp only [Act.put, List.setIfInBounds_toArray, List.set_cons_zero, List.set_cons_succ])
        refine take_E (n := 20) (i := 8) (v := ?v20_8) rfl (by kernel_rfl) (fun _ _ _ h => h) ?hy20_8 (by rfl) hHeld ?rest20_8
        case hy20_8 => (intro w9 hSw; (try dsimp only at hSw); go_simp <;> with_reducible rfl)
        (try simp only [Act.put, List.setIfInBounds_toArray, List.set_cons_zero, List.set_cons_succ])
        refine take_E (n := 20) (i := 9) (v := ?v20_9) rfl (by kernel_rfl) (fun _ _ _ h => h) ?hy20_9 (by rfl) hHeld ?rest20_9
        case hy20_9 => (intro w9 hSw; (try dsimp only at hSw); go_simp <;> with_reducible rfl)
        (try simp only [Act.put, List.setIfInBounds_toArray, List.set_cons_zero, List.set_cons_succ])
        refine take_E (n := 20) (i := 10) (v := ?v20_10) rfl (by kernel_rfl) (fun _ _ _ h => h) ?hy20_10 (by rfl) hHeld ?rest20_10
        case hy20_10 => (intro w9 hSw; (try dsimp only at hSw); go_simp <;> with_reducible rfl)
        (try simp only [Act.put, List.setIfInBounds_toArray, List.set_cons_zero, List.set_cons_succ])
        refine take_E (n := 20) (i := 11) (v := ?v20_11) rfl (by kernel_rfl) (fun _ _ _ h => h) ?hy20_11 (by rfl) hHeld ?rest20_11
        case hy20_11 => (intro w9 hSw; (try dsimp only at hSw); go_simp <;> with_reducible rfl)
        (try simp only [Act.put, List.setIfInBounds_toArray, List.set_cons_zero, List.set_cons_succ])
        refine take_E (n := 20) (i := 12) (v := ?v20_12) rfl (by kernel_rfl) (fun _ _ _ h => h) ?hy20_12 (by rfl) hHeld ?rest20_12
        case hy20_12 => (intro w9 hSw; (try dsimp only at hSw); go_simp <;> with_reducible rfl)
        (try simp only [Act.put, List.setIfInBounds_toArray, List.set_cons_zero, List.set_cons_succ])
        refine take_E (n := 20) (i := 13) (v := ?v20_13) rfl (by kernel_rfl) (fun _ _ _ h => h) ?hy20_13 (by rfl) hHeld ?rest20_13
        case hy20_13 => (intro w9 hSw; (try dsimp only at hSw); go_simp <;> with_reducible rfl)
        (try simp only [Act.put, List.setIfInBounds_toArray, List.set_cons_zero, List.set_cons_succ])
        refine take_E (n := 20) (i := 14) (v := ?v20_14) rfl (by kernel_rfl) (fun _ _ _ h => h) ?hy20_14 (by rfl) hHeld ?rest20_14
        case hy20_14 => (intro w9 hSw; (try dsimp only at hSw); go_simp <;> with_reducible rfl)
        (try simp only [Act.put, List.setIfInBounds_toArray, List.set_cons_zero, List.set_cons_succ])
        refine take_E (n := 20) (i := 15) (v := ?v20_15) rfl (by kernel_rfl) (fun _ _ _ h => h) ?hy20_15 (by rfl) hHeld ?rest20_15
        case hy20_15 => (intro w9 hSw; (try dsimp only at hSw); go_simp <;> with_reducible rfl)
        (try simp only [Act.put, List.setIfInBounds_toArray, List.set_cons_zero, List.set_cons_succ])
        refine take_E (n := 20) (i := 16) (v := ?v20_16) rfl (by kernel_rfl) (fun _ _ _ h => h) ?hy20_16 (by rfl) hHeld ?rest20_16
        case hy20_16 => (intro w9 hSw; (try dsimp only at hSw); go_simp <;> with_reducible rfl)
        (try simp only [Act.put, List.setIfInBounds_toArray, List.set_cons_zero, List.set_cons_succ])
        refine take_E (n := 20) (i := 17) (v := ?v20_17) rfl (by kernel_rfl) (fun _ _ _ h => h) ?hy20_17 (by rfl) hHeld ?rest20_17
        case hy20_17 => (intro w9 hSw; (try dsimp only at hSw); go_simp <;> with_reducible rfl)
        (try simp only [Act.put, List.setIfInBounds_toArray, List.set_cons_zero, List.set_cons_succ])
        refine one_E (n := 20) (i := 18) (by kernel_rfl) rfl (fun K hK => ?_)
        go_simp
        go_at_call 73
        refine (HV2.out _ M_0.out).mono ?_
        rintro e p1 ⟨vl1, rfl, hM⟩
        have M_1 := Lib.hid hM
        have q1 := M_1.out.cells.1.2
        have hz1 := lt_of_block M_1.out.s.a.a
        clear hM
        refine hK.out _ _ (fun _ => ⟨(SM.cells M_1.out).1.2, (SM.cells M_1.out).2⟩) (fun hHeld18 => ?_)
        clear hK K
        (try simp only [Act.put, List.setIfInBounds_toArray, List.set_cons_zero, List.set_cons_succ])
        refine one_E (n := 20) (i := 19) (by kernel_rfl) rfl (fun K hK => ?_)
        go_simp
        refine hK.out _ _ (fun _ => ⟨(SM.cells (SM.alloc M_1.out _)).1.2, (SM.cells (SM.alloc M_1.out _)).2⟩) (fun hHeld19 => ?_)
        clear hK K
        (try simp only [Act.put, List.setIfInBounds_toArray, List.set_cons_zero, List.set_cons_succ])
        refine one_E (n := 20) (i := 20) (by kernel_rfl) rfl (fun K hK => ?_)
        refine step_append_lies _ (by rfl) _ _ _ (by rfl) w.heap.size 3 i0 _ 1 8 Try.underlying22 hi z0 z1 z2 rfl (by omega) vT T.length (is T) (by rfl) (SM.alloc M_1.out _).s.a.rT ⟨p1.heap.size, 0, none⟩ 1 1 [.int .i64 (y : Nat)] (by rfl) (by rfl) (World.news_of_block (cs := #[.int .i64 (y : Nat)]) (t := 3) (fr := (0, 0)) (heap_alloc_new p1 _)) (by simp [Value.oneCell']) (by omega) (by unfold maxLen; omega) (by omega) (SM.alloc M_1.out _).s.v.bs (p1.heap.size + 1) (by simp) ?_
        intro gg cap' p2 hown2 hgrow hat hlt3
        have HA2 := Lib.hid ((SM.alloc M_1.out _).app (.inr rfl) hgrow)
        have HE2 := Lib.hid (SM.pushT (SM.alloc M_1.out _) hown2 hgrow (by simpa using hat))
        have fz := (two_of_block HA2.out.1).2
        have qz := (two_of_block HA2.out.1).1
        clear hown2 hgrow hat
        refine hK.out _ _ (fun h => absurd h (by decide)) (fun hHeld20 => ?_)
        clear hK K
        (try simp only [Act.put, List.setIfInBounds_toArray, List.set_cons_zero, List.set_cons_succ])
        refine one_E (n := 20) (i := 21) (by kernel_rfl) rfl (fun K hK => ?_)
        go_simp
        refine hK.out _ _ (fun h => absurd h (by decide)) (fun hHeld21 => ?_)
        clear hK K
        (try simp only [Act.put, List.setIfInBounds_toArray, List.set_cons_zero, List.set_cons_succ])
        refine one_E (n := 20) (i := 22) (by kernel_rfl) rfl (fun K hK => ?_)
        go_simp
        refine hK.out _ _ (fun h => absurd h (by decide)) (fun hHeld22 => ?_)
        clear hK K
        (try simp only [Act.put, List.setIfInBounds_toArray, List.set_cons_zero, List.set_cons_succ])
        refine done_E (by kernel_rfl) ?_ _
        go_wp2
        go_roundw
        case rel => exact ⟨S.length + 1, _, vS', _, by go_num, by omega, by rw [← HS2.out, HNe.out]; exact Lib.hid HE2.out.s⟩
        case measure => simp [intOf]; omega
    · obtain rfl : i = N := by omega
      obtain ⟨l1, l2, l3⟩ := srun_len co i
      have hLn : (srun co i).L.length = i := hN
      have hrow := HS.out.v.row
      rw [l1, hLn] at hrow
      have rS := HS.out.a.rS
      have rT := HS.out.a.rT
      rw [l2] at rS
      rw [l3] at rT
      obtain ⟨A, c', rfl⟩ : ∃ A c', vl = .slice A i c' := by
        rcases hrow.2 with ⟨h, h'⟩ | ⟨g, cap, cur, h, _⟩
        · exact ⟨none, 0, by rw [h, h']⟩
        · exact ⟨_, _, h⟩
      obtain ⟨AS, cS, rfl⟩ : ∃ A c', vS = .slice A i c' := by
        rcases rS.2 with ⟨h, h'⟩ | ⟨g, cap, cur, h, _⟩
        · exact ⟨none, 0, by rw [h, h']⟩
        · exact ⟨_, _, h⟩
      obtain ⟨AT, cT, rfl⟩ : ∃ A c', vT = .slice A i c' := by
        rcases rT.2 with ⟨h, h'⟩ | ⟨g, cap, cur, h, _⟩
        · exact ⟨none, 0, by rw [h, h']⟩
        · exact ⟨_, _, h⟩
      have lc := cell_of_one HS.out.v.l
      have hzl := lt_of_block HS.out.v.l
      obtain ⟨⟨a1, a2⟩, _⟩ := two_of_block HS.out.a.a
      have hzb := lt_of_block HS.out.a.a
      obtain ⟨⟨b1, b2⟩, fb⟩ := two_of_block HS.out.res
      have hzr := lt_of_block HS.out.res
      have hk3 : ¬ (i : Int) < (i : Int) := by omega
      have HRo := Lib.hid hrow
      have HRS := Lib.hid rS
      have HRT := Lib.hid rT
      clear hrow rS rT hco hb hlt hone HX
      go_upto_region 12 with fail
      go_region
      go_wp2
      have z0' : ((wr.setCell ⟨w.heap.size + 1, 0, none⟩ (.slice AS i cS)).setCell ⟨w.heap.size + 1, 1, none⟩ (.slice AT i cT)).heap[w.heap.size + 1]? = some (.cells #[.slice AS i cS, .slice AT i cT] 24 (0, 0)) :=
        heap_setCell_same _ (w.heap.size + 1) 1 #[.slice AS i cS, .slice none 0 0] _ _ (heap_setCell_same _ (w.heap.size + 1) 0 #[.slice none 0 0, .slice none 0 0] _ _ HS.out.res)
      obtain ⟨⟨d1, d2⟩, _⟩ := two_of_block z0'
      have keep : ∀ {base n size : Nat} {e : TypeId} {v : Value} {xs : List Value}, wr.ownsRow base e size v n xs → e ≠ 24 → ((wr.setCell ⟨w.heap.size + 1, 0, none⟩ (.slice AS i cS)).setCell ⟨w.heap.size + 1, 1, none⟩ (.slice AT i cT)).ownsRow base e size v n xs := fun h he => row_keep h fun g hg => by
        obtain ⟨_, cur, hc⟩ := row_lt h hg
        have hne : g ≠ w.heap.size + 1 := ty_ne hc HS.out.res he
        exact set_ne (set_ne rfl hne _) hne _
      refine bodyPost_ret (v := .tuple #[.agg #[.slice AS i cS, .slice AT i cT], .slice A i c']) ?_ rfl ⟨.slice AS i cS, .slice AT i cT, .slice A i c', rfl, keep HRS.out (by decide), keep HRT.out (by decide), keep HRo.out (by decide), (below_set2 HS.out.bel (by omega) _ _).drew⟩
      simp [results, Try.results48, go_sem, d1, d2]
end Go.Proofs.Ytmikhkolbkdnpaa
