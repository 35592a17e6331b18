/- The contract of the reference's Chain. -/
import Derived.Test.YtbkombklfpjjpaaChnL
import Derived.Test.YtbkombklfpjjpaaRPathL
namespace Go.Proofs.Ytbkombklfpjjpaa
open Go.RowKit

set_option maxHeartbeats 6400000 in
set_option maxRecDepth 1000000 in
theorem rchain_any (a b c d : Int) (w : World) : Calls Try.prog 26 #[.agg #[.int .i64 a, .int .i64 b], .agg #[.int .i64 c, .int .i64 d]] w (CusTup w (bothI a b c d) (chnL a b c d)) := by
  have HA := Lib.hid (fun W => rPath_any a b W)
  have HB := Lib.hid (fun W => rPath_any c d W)
  by_cases h : bothI a b c d = 0
  · obtain ⟨i0, hi, z0, z1, z2⟩ := info_parts Try.infoCusp
    obtain ⟨g1, g2⟩ := both_ok h
    rw [chnL_yes h]
    rw [g1, pthL_yes g1] at HA
    rw [g2, pthL_yes g2] at HB
    obtain ⟨hX, X, eX⟩ := pthl_facts g1
    obtain ⟨hY, Y, eY⟩ := pthl_facts g2
    have hm1 := cpl_pos eX eY
    rw [h]
    clear h g1 g2 eX eY
    generalize pthl a b = x at *
    generalize pthl c d = y at *
    obtain ⟨hm2, hm3⟩ := cpl_le x y
    have HM := Lib.hid (cpl_step x y)
    have HM2 := Lib.hid (fun k => @cpl_stop x y k)
    have HF : Hid (chn x y = (x.drop (cpl x y - 1)).reverse ++ y.drop (cpl x y)) := rfl
    generalize chn x y = Z at *
    generalize cpl x y = m at *
    go_enter Try.func26, Try.ntmps26
    go_upto_block 0 with (first
      | (go_at_call 23; ((with_reducible refine (HA.out _).mono ?_); rintro e w1 ⟨A1, c1, rfl, ho, hb⟩; have R1 := Lib.hid (own_rdc ho); obtain ⟨hc, hf⟩ := bcell hb; obtain ⟨hz0, hz1⟩ : w.heap.size < w1.heap.size ∧ w.heap.size + 1 < w1.heap.size := (by have := hb.size; simp at this; omega); have B1 := Lib.hid ((below2 w _ _).trans (hb.mono (by simp; omega))); clear ho hb))
      | (go_at_call 23; ((with_reducible refine (HB.out _).mono ?_); rintro e W ⟨A2, c2, rfl, ho, hb⟩; have HW : Hid (ChW w W A1 c1 x A2 c2 y) := ⟨(R1.out.below hb).mono hb.size, own_rdc ho, B1.out.trans (hb.mono B1.out.size)⟩; clear ho hb))
      | fail)
    have hxl := HW.out.rx.len
    have hyl := HW.out.ry.len
    clear HA HB hc hf
    go_cut [10] (fun s9 wx => ∃ n : Nat, s9 = .int .i64 m ∧ wx = W.drewN n)
    case first =>
      go_wp2_with fail
      go_loopw [10] (fun i wr => ∃ k n : Nat, i = .int .i64 k ∧ Hid (k ≤ m) ∧ wr = W.drewN n) (fun i _ => x.length - (intOf i).toNat)
      case atStart => exact ⟨0, 0, rfl, Nat.zero_le _, rfl⟩
      case round =>
        obtain ⟨k, n, rfl, hk, rfl⟩ := hrel
        have hkm := hk.out
        by_cases h1 : k < x.length
        · by_cases h2 : k < y.length
          · obtain ⟨b1, o1, rfl, _, x1, x3⟩ := HW.out.rx.at_ h1
            obtain ⟨b2, o2, rfl, _, x2, x4⟩ := HW.out.ry.at_ h2
            have y1 := fun N => (show (W.drewN N).cell? ⟨b1, o1 + k * 2, none⟩ = _ from x1)
            have y2 := fun N => (show (W.drewN N).cell? ⟨b2, o2 + k * 2, none⟩ = _ from x2)
            have y3 := fun N => (show (W.drewN N).cell? ⟨b1, o1 + k * 2 + 1, none⟩ = _ from x3)
            have y4 := fun N => (show (W.drewN N).cell? ⟨b2, o2 + k * 2 + 1, none⟩ = _ from x4)
            have h3 : (k : Int) < (x.length : Int) := by omega
            have h4 : (k : Int) < (y.length : Int) := by omega
            have hg1 : decide ((k : Int) < (x.length : Int)) = true := by simpa using h1
            have hg2 : decide ((k : Int) < (y.length : Int)) = true := by simpa using h2
            have hg3 : decide (k < x.length) = true := by simpa using h1
            have hg4 : decide (k < y.length) = true := by simpa using h2
            have HS := Lib.hid (HM.out k h1 h2 hkm)
            have HT := Lib.hid (fun (e : x[k] ≠ y[k]) => HM2.out k hkm (fun _ _ => e))
            clear x1 x2 x3 x4
            generalize x[k] = P at *
            generalize y[k] = Q at *
            obtain ⟨p1, p2⟩ := P
            obtain ⟨q1, q2⟩ := Q
            by_cases e1 : p1 = q1
            · subst e1
              by_cases e2 : p2 = q2
              · subst e2
                have HK := Lib.hid (HS.out rfl)
                clear HS HT
                go_wp2
                go_quiet (fail)
                go_wp2
                go_roundw
                case rel => exact ⟨k + 1, _, by go_num, HK.out, rfl⟩
                case measure => simp [intOf]; omega
              · have HK := Lib.hid (HT.out (fun e => e2 (by cases e; rfl)))
                have e3 : (p2 == q2) = false := by simpa using e2
                clear HS HT
                go_wp2
                go_quiet (fail)
                all_goals go_wp2_with fail
                all_goals go_meet
                all_goals exact ⟨n + nq, by rw [HK.out], by first | rfl | exact World.drewN_drewN W n nq⟩
            · have HK := Lib.hid (HT.out (fun e => e1 (by cases e; rfl)))
              have e3 : (p1 == q1) = false := by simpa using e1
              clear HS HT
              go_wp2
              go_quiet (fail)
              all_goals go_wp2_with fail
              all_goals go_meet
              all_goals exact ⟨n + nq, by rw [HK.out], by first | rfl | exact World.drewN_drewN W n nq⟩
          · have HK := Lib.hid (HM2.out k hkm (fun _ h => absurd h h2))
            have hg1 : decide ((k : Int) < (x.length : Int)) = true := by simpa using h1
            have hg3 : decide (k < x.length) = true := by simpa using h1
            have hg2 : decide ((k : Int) < (y.length : Int)) = false := by simpa using h2
            have hg4 : decide (k < y.length) = false := by simpa using h2
            go_wp2
            go_quiet (fail)
            all_goals go_wp2_with fail
            all_goals go_meet
            all_goals exact ⟨n + nq, by rw [HK.out], by first | rfl | exact World.drewN_drewN W n nq⟩
        · have HK := Lib.hid (HM2.out k hkm (fun h => absurd h h1))
          have hg1 : decide ((k : Int) < (x.length : Int)) = false := by simpa using h1
          have hg3 : decide (k < x.length) = false := by simpa using h1
          go_wp2
          go_quiet (fail)
          all_goals go_wp2_with fail
          all_goals go_meet
          all_goals exact ⟨n + nq, by rw [HK.out], by first | rfl | exact World.drewN_drewN W n nq⟩
    case rest =>
      obtain ⟨n0, rfl, rfl⟩ := hcut
      have RX : Hid (RdC (W.drewN n0) (W.drewN n0).heap.size A1 c1 x) := HW.out.rx
      have RY : Hid (RdC (W.drewN n0) (W.drewN n0).heap.size A2 c2 y) := HW.out.ry
      have BW : Hid (Below w.heap.size w (W.drewN n0)) := below_drewN HW.out.bel n0
      clear HW HM HM2
      generalize W.drewN n0 = W1 at *
      go_wp2
      go_loopw [12, 11] (fun i v wr => ∃ (k j : Nat) (z : Int), i = .int .i64 z ∧ z + 1 = j ∧ j + k = x.length ∧ m ≤ j + 1 ∧ Hid (wr.ownsRow W1.heap.size 23 2 v k (cs (x.drop j).reverse)) ∧ Hid (Below W1.heap.size W1 wr)) (fun i _ _ => (intOf i + 1).toNat)
      case atStart => exact ⟨0, x.length, (x.length : Int) - 1, rfl, by omega, by omega, by omega, by rw [List.drop_length]; exact World.ownsRow_nil _ _ _ _, Below.refl _ _⟩
      case round =>
        obtain ⟨k, j, z, rfl, hz, hjk, hmj, HO, HB⟩ := hrel
        by_cases hj : m ≤ j
        · obtain ⟨t, rfl⟩ : ∃ t, j = t + 1 := ⟨j - 1, by omega⟩
          obtain rfl : z = (t : Int) := by omega
          have htx : t < x.length := by omega
          obtain ⟨b1, o1, rfl, hb1, x1, x3⟩ := RX.out.at_ htx
          have y1 := (HB.out.cell (p := ⟨b1, o1 + t * 2, none⟩) hb1).trans x1
          have y3 := (HB.out.cell (p := ⟨b1, o1 + t * 2 + 1, none⟩) hb1).trans x3
          have ht2 : (t : Int) < (x.length : Int) := by omega
          have hmt : (m : Int) - 1 ≤ (t : Int) := by omega
          have HE : Hid ((x.drop (t + 1)).reverse ++ [x[t]] = (x.drop t).reverse) := by
            show _ = _
            rw [List.drop_eq_getElem_cons htx, List.reverse_cons]
          have hown := HO.out
          have hbs := HB.out.size
          clear x1 x3 HO
          generalize x[t] = P at *
          obtain ⟨p1, p2⟩ := P
          go_wp2_with (first
            | (at_builtin; (refine wpList_append_own _ rfl _ _ 35 rfl W1.heap.size 23 i0 (.agg #[.int .i64 0, .int .i64 0]) 2 16 Try.underlying35 hi z0 z1 z2 rfl (by decide) _ _ _ rfl (hown.alloc _) ⟨wr.heap.size, 0, none⟩ 1 1 [.int .i64 p1, .int .i64 p2] rfl rfl (cell_two_new _ _ _ _) (fun x hx => by simp at hx; rcases hx with hx | hx <;> (rw [hx]; rfl)) (by unfold maxLen; omega) (by omega) (by simp; omega) ?_); intro v' w3 hown' hgrow3 hnil3; have HO3 := Lib.hid hown'; have HG3 := Lib.hid hgrow3; clear hown' hgrow3 hnil3)
            | fail)
          go_roundw
          case rel =>
            refine ⟨k + 1, t, (t : Int) - 1, rfl, by omega, by omega, by omega, ?_, below_app HB.out hbs hown (Nat.le_refl _) HG3.out⟩
            have e := HE.out
            rw [← e, cs_append]
            exact HO3.out
          case measure => simp [intOf]
        · obtain rfl : m = j + 1 := by omega
          have hzm : z < (((j + 1 : Nat) : Int)) - 1 := by omega
          have hown := HO.out
          have hbs := HB.out.size
          have hy0 : 0 < y.length := by omega
          obtain ⟨b2, o2, rfl, hb2, x1, x2⟩ := RY.out.at_ hy0
          have hcy := RY.out.1
          have hcm := RY.out.2.1
          unfold maxLen at hcm
          have hym : ((j + 1 : Nat) : Int) ≤ (y.length : Int) := by omega
          have RY2 := Lib.hid (RY.out.below HB.out)
          clear RY HO x1 x2
          by_cases hcap : c2 = j + 1
          · subst hcap
            have HYJ : Hid (y.drop (j + 1) = []) := List.drop_of_length_le (by omega)
            go_wp2_with (first
              | (at_builtin; (refine wpList_append_own _ rfl _ _ 35 rfl W1.heap.size 23 i0 (.agg #[.int .i64 0, .int .i64 0]) 2 16 Try.underlying35 hi z0 z1 z2 rfl (by decide) _ _ _ rfl hown ⟨b2, o2, none⟩ 0 _ [] rfl rfl (fun i u hi' => by cases hi') (fun u hu => by cases hu) (by unfold maxLen; omega) (by omega) (by omega) ?_); intro v' w3 hown' hgrow3 hnil3; have HO3 := Lib.hid hown'; have HG3 := Lib.hid hgrow3; clear hown' hgrow3 hnil3)
              | fail)
            have eZ : cs Z = cs (x.drop j).reverse ++ [] := by
              have e := HF.out
              rw [Nat.add_sub_cancel, HYJ.out] at e
              rw [e, cs_append]; rfl
            have eL : k + 0 = Z.length := by
              have e := HF.out
              rw [Nat.add_sub_cancel, HYJ.out] at e
              rw [e]; simp; omega
            obtain ⟨A3, c3, rfl, ho3, hb3⟩ := chn_end BW.out HB.out hown (by rw [eZ]; exact HO3.out) eL HG3.out
            clear eZ eL
            refine bodyPost_ret (v := .tuple #[.slice A3 Z.length c3, .int .i64 0]) ?_ rfl ⟨A3, c3, rfl, ho3, hb3⟩
            simp [results, Try.results26, go_sem, *]
          · have HN := Lib.hid (fun i u => RY2.out.drop_cells (m := j + 1) i u)
            go_wp2_with (first
              | (at_builtin; (refine wpList_append_own _ rfl _ _ 35 rfl W1.heap.size 23 i0 (.agg #[.int .i64 0, .int .i64 0]) 2 16 Try.underlying35 hi z0 z1 z2 rfl (by decide) _ _ _ rfl hown ⟨b2, o2 + (j + 1) * 2, none⟩ (y.length - (j + 1)) _ (cs (y.drop (j + 1))) rfl (by rw [cs_length, List.length_drop]; omega) HN.out (cs_one _) (by unfold maxLen; omega) (by omega) (by omega) ?_); intro v' w3 hown' hgrow3 hnil3; have HO3 := Lib.hid hown'; have HG3 := Lib.hid hgrow3; clear hown' hgrow3 hnil3)
              | fail)
            have eZ : cs Z = cs (x.drop j).reverse ++ cs (y.drop (j + 1)) := by
              have e := HF.out
              rw [Nat.add_sub_cancel] at e
              rw [e, cs_append]
            have eL : k + (y.length - (j + 1)) = Z.length := by
              have e := HF.out
              rw [Nat.add_sub_cancel] at e
              rw [e]; simp; omega
            obtain ⟨A3, c3, rfl, ho3, hb3⟩ := chn_end BW.out HB.out hown (by rw [eZ]; exact HO3.out) eL HG3.out
            clear eZ eL
            refine bodyPost_ret (v := .tuple #[.slice A3 Z.length c3, .int .i64 0]) ?_ rfl ⟨A3, c3, rfl, ho3, hb3⟩
            simp [results, Try.results26, go_sem, *]
  · rw [chnL_no h]
    by_cases g : cuspI a b = 0
    · rw [bothI_good g] at h ⊢
      rw [g] at HA
      rw [pthL_no h] at HB
      rcases cusp_vals c d with h0 | h0 | h0
      · exact absurd h0 h
      all_goals
        rw [h0] at HB ⊢
        clear h h0 g
        generalize pthL a b = x at *
        go_enter Try.func26, Try.ntmps26
        go_wp2_with (first
          | (go_at_call 23; ((with_reducible refine (HA.out _).mono ?_); rintro e w1 ⟨A1, c1, rfl, ho, hb⟩; obtain ⟨hc, hf⟩ := bcell hb; obtain ⟨hz0, hz1⟩ : w.heap.size < w1.heap.size ∧ w.heap.size + 1 < w1.heap.size := (by have := hb.size; simp at this; omega); have B1 := Lib.hid ((below2 w _ _).trans (hb.mono (by simp; omega))); clear ho hb))
          | (go_at_call 23; ((with_reducible refine (HB.out _).mono ?_); rintro e w2 ⟨A2, c2, rfl, ho, hb⟩; have B2 := Lib.hid (B1.out.trans (hb.mono B1.out.size)); clear ho hb))
          | fail)
        first
          | (refine bodyPost_ret (v := .tuple #[.slice none 0 0, .int .i64 2]) ?_ rfl ⟨none, 0, rfl, World.ownsRow_nil _ _ _ _, B2.out⟩; simp [results, Try.results26, go_sem, *])
          | (refine bodyPost_ret (v := .tuple #[.slice none 0 0, .int .i64 3]) ?_ rfl ⟨none, 0, rfl, World.ownsRow_nil _ _ _ _, B2.out⟩; simp [results, Try.results26, go_sem, *])
    · rw [bothI_bad g]
      rw [pthL_no g] at HA
      rcases cusp_vals a b with h0 | h0 | h0
      · exact absurd h0 g
      all_goals
        rw [h0] at HA ⊢
        clear h h0 g
        generalize pthL c d = y at *
        generalize cuspI c d = j at *
        go_enter Try.func26, Try.ntmps26
        go_wp2_with (first
          | (go_at_call 23; ((with_reducible refine (HA.out _).mono ?_); rintro e w1 ⟨A1, c1, rfl, ho, hb⟩; obtain ⟨hc, hf⟩ := bcell hb; obtain ⟨hz0, hz1⟩ : w.heap.size < w1.heap.size ∧ w.heap.size + 1 < w1.heap.size := (by have := hb.size; simp at this; omega); have B1 := Lib.hid ((below2 w _ _).trans (hb.mono (by simp; omega))); clear ho hb))
          | (go_at_call 23; ((with_reducible refine (HB.out _).mono ?_); rintro e w2 ⟨A2, c2, rfl, ho, hb⟩; have B2 := Lib.hid (B1.out.trans (hb.mono B1.out.size)); clear ho hb))
          | fail)
        first
          | (refine bodyPost_ret (v := .tuple #[.slice none 0 0, .int .i64 2]) ?_ rfl ⟨none, 0, rfl, World.ownsRow_nil _ _ _ _, B2.out⟩; simp [results, Try.results26, go_sem, *])
          | (refine bodyPost_ret (v := .tuple #[.slice none 0 0, .int .i64 3]) ?_ rfl ⟨none, 0, rfl, World.ownsRow_nil _ _ _ _, B2.out⟩; simp [results, Try.results26, go_sem, *])
end Go.Proofs.Ytbkombklfpjjpaa
