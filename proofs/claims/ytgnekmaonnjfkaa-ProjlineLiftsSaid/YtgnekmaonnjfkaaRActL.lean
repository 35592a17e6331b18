/- The contract of the reference's Act. -/
import Derived.Test.YtgnekmaonnjfkaaRIdxL
import Derived.Test.YtgnekmaonnjfkaaActL
namespace Go.Proofs.Ytgnekmaonnjfkaa
open Go.RowKit
set_option linter.unusedVariables false

set_option maxHeartbeats 6400000 in
set_option maxRecDepth 1000000 in
theorem ract_any (n i a b c d : Int) (w : World) : Calls Try.prog 24 #[.int .i64 n, .int .i64 i, .agg #[.int .i64 a, .int .i64 b, .int .i64 c, .int .i64 d]] w (ActRet n i a b c d w) := by
  have HL := Lib.hid (fun W => rlist_any n W)
  cases hlv : lvB n with
  | false =>
    have HE : Hid (ActE n i a b c d 0 2) := ActE.out (.inl hlv)
    rw [ptI_no hlv, lvE_no hlv] at HL
    clear hlv
    go_enter Try.func24, Try.ntmps24
    go_wp2_with (first
      | (go_at_call 17; ((with_reducible refine (HL.out _).mono ?_); rintro e w2 ⟨A, cc, rfl, hr, hb⟩; have HB := Lib.hid (bel1 (Below.refl _ _) hb); clear hb hr))
      | fail)
    refine bodyPost_ret (v := .tuple #[.int .i64 0, .int .i64 2]) ?_ rfl ⟨_, _, HE.out, rfl, HB.out⟩
    simp [results, Try.results24, go_sem, *]
  | true =>
    have HO : Hid (i < 0 ∨ ((ptI n).length : Int) ≤ i ∨ fitB a b c d = false → ActE n i a b c d 0 2) := fun h => ActE.out (.inr h)
    have HCo : Hid (0 ≤ i → i < (ptI n).length → fitB a b c d = true → ¬ Int.gcd (a * d - b * c) n = 1 → ActE n i a b c d 0 9) := fun h1 h2 h3 h4 => ActE.cop hlv h1 h2 h3 h4
    have HY : Hid (∀ u v x y : Nat, ∀ T : Int, 0 ≤ i → (ptI n)[i.toNat]? = some (u, v) → fitB a b c d = true → Int.gcd (a * d - b * c) n = 1 → NF n (u * a + v * c) (u * b + v * d) x y T → Cop3 n (u * a + v * c) (u * b + v * d) → (x, y) ∈ ptI n → ActE n i a b c d (ix (ptI n) x y) 0) := fun u v x y T h1 h2 h3 h4 h5 h6 h7 => ActE.yes u v x y T hlv h1 h2 h3 h4 h5 h6 h7
    obtain ⟨k, rfl, k1, k2⟩ := lv_nat hlv
    rw [ptI_yes hlv] at HO HCo HY HL
    rw [lvE_yes hlv] at HL
    have hlen := pts_len k2
    have HM : Hid (∀ u v, (u, v) ∈ pts k → u < k ∧ v < k ∧ Cop3 k u v) := fun u v h => by
      obtain ⟨h1, h2, h3⟩ := mem_pts.1 h
      exact ⟨h1, h2, ((ptB_iff h1 h2).1 h3).cop⟩
    have HMm : Hid (∀ c' d' U V T, NF k c' d' U V T → Cop3 k c' d' → ∃ u v : Nat, U = u ∧ V = v ∧ (u, v) ∈ pts k) := fun c' d' U V T h1 h2 => nf_mem k1 h1 h2
    have k1i : 1 ≤ (k : Int) := by omega
    clear hlv
    generalize pts k = C at *
    have HFi := Lib.hid (fun W => rFits_any a b c d W)
    go_enter Try.func24, Try.ntmps24
    go_upto_region 4 with (first
      | (go_at_call 17; ((with_reducible refine (HL.out _).mono ?_); rintro e w2 ⟨A, cc, rfl, hr, hb⟩; have HF := Lib.hid ((Four.at w rfl a b c d).below hb); have HR := Lib.hid hr; have HB := Lib.hid (bel1 (Below.refl _ _) hb); clear hb hr))
      | fail)
    by_cases hi0 : i < 0
    · have HE := Lib.hid (HO.out (.inl hi0))
      go_wp2_with fail
      refine bodyPost_ret (v := .tuple #[.int .i64 0, .int .i64 2]) ?_ rfl ⟨_, _, HE.out, rfl, HB.out⟩
      simp [results, Try.results24, go_sem, *]
    by_cases hi1 : (C.length : Int) ≤ i
    · have HE := Lib.hid (HO.out (.inr (.inl hi1)))
      go_wp2_with fail
      refine bodyPost_ret (v := .tuple #[.int .i64 0, .int .i64 2]) ?_ rfl ⟨_, _, HE.out, rfl, HB.out⟩
      simp [results, Try.results24, go_sem, *]
    have hzf := HF.out.lt
    obtain ⟨f1, f2, f3, f4⟩ := HF.out.cells
    cases hft : fitB a b c d with
    | false =>
      have HE := Lib.hid (HO.out (.inr (.inr hft)))
      rw [hft] at HFi
      clear hft
      go_wp2_with (first
        | (go_at_call 43; ((with_reducible refine (HFi.out _).mono ?_); rintro e w3 ⟨rfl, hb⟩; have HB3 := Lib.hid (bel0 HB.out hb); clear hb))
        | fail)
      refine bodyPost_ret (v := .tuple #[.int .i64 0, .int .i64 2]) ?_ rfl ⟨_, _, HE.out, rfl, HB3.out⟩
      simp [results, Try.results24, go_sem, *]
    | true =>
      rw [hft] at HFi
      obtain ⟨⟨a1, a2⟩, ⟨b1, b2⟩, ⟨c1, c2⟩, ⟨d1, d2⟩⟩ := fitB_iff.1 hft
      obtain ⟨hp1, hp1'⟩ := prod_le a1 a2 d1 d2
      obtain ⟨hp2, hp2'⟩ := prod_le b1 b2 c1 c2
      have HGd := Lib.hid (fun W => rGcd_any (a * d - b * c) k W (by unfold Mid; omega) (by unfold Mid; omega))
      have HFt := Lib.hid hft
      clear hft
      go_upto_region 6 with (first
        | (go_at_call 43; ((with_reducible refine (HFi.out _).mono ?_); rintro e w3 ⟨rfl, hb⟩; have HB3 := Lib.hid (bel0 HB.out hb); have HR3 := Lib.hid (HR.out.below hb); have HF3 := Lib.hid (HF.out.below hb); have HBb := Lib.hid hb; clear hb f1 f2 f3 f4 hzf; have hzf := HF3.out.lt; obtain ⟨f1, f2, f3, f4⟩ := HF3.out.cells))
        | fail)
      by_cases hg : Int.gcd (a * d - b * c) k = 1
      case neg =>
        have HE := Lib.hid (HCo.out (by omega) (by omega) HFt.out hg)
        obtain ⟨z, hz⟩ : ∃ z : Int, z = (Int.gcd (a * d - b * c) k : Nat) := ⟨_, rfl⟩
        have hz1 : (z != 1) = true := by rw [bne_iff_ne]; omega
        rw [← hz] at HGd
        clear hg hz
        go_wp2_with (first
          | (go_at_call 15; ((with_reducible refine (HGd.out _).mono ?_); rintro e w' ⟨rfl, q1, rfl⟩))
          | fail)
        refine bodyPost_ret (v := .tuple #[.int .i64 0, .int .i64 9]) ?_ rfl ⟨_, _, HE.out, rfl, below_drewN HB3.out q1⟩
        simp [results, Try.results24, go_sem, *]
      obtain ⟨j, rfl⟩ : ∃ j : Nat, i = j := ⟨i.toNat, by omega⟩
      have hj : j < C.length := by omega
      have hji : (j : Int) < (C.length : Int) := by omega
      have hlt : ¬ (C.length : Int) ≤ (j : Int) := by omega
      have hget : C[j]? = some (C[j].1, C[j].2) := by rw [List.getElem?_eq_getElem hj]
      obtain ⟨m1, m2, m3⟩ := HM.out C[j].1 C[j].2 (List.getElem_mem hj)
      have HY2 : Hid (∀ (x y : Nat) (T : Int), NF k (C[j].1 * a + C[j].2 * c) (C[j].1 * b + C[j].2 * d) x y T → Cop3 k (C[j].1 * a + C[j].2 * c) (C[j].1 * b + C[j].2 * d) → (x, y) ∈ C → ActE k j a b c d (ix C x y) 0) := fun x y T h1 h2 h3 => HY.out C[j].1 C[j].2 x y T (by omega) hget HFt.out hg h1 h2 h3
      have HGG : Hid (Int.gcd (a * d - b * c) k = 1) := hg
      have HRj : Hid (∃ b o, A = some ⟨b, o, none⟩ ∧ b < w2.heap.size ∧ w2.cell? ⟨b, o + j * 3, none⟩ = some (.int .i64 (C[j].1 : Int)) ∧ w2.cell? ⟨b, o + j * 3 + 1, none⟩ = some (.int .i64 (C[j].2 : Int)) ∧ w2.cell? ⟨b, o + j * 3 + 2, none⟩ = some (.int .i64 1)) := HR.out.at_ hj
      rw [hg] at HGd
      clear hg hget HY HO HCo HM
      generalize C[j].1 = u at *
      generalize C[j].2 = v at *
      obtain ⟨⟨p1, p2⟩, p3, p4⟩ := act_bd (u := u) (v := v) (by omega) (by omega) (by omega) (by omega) a1 a2 c1 c2
      obtain ⟨⟨p5, p6⟩, p7, p8⟩ := act_bd (u := u) (v := v) (by omega) (by omega) (by omega) (by omega) b1 b2 d1 d2
      have HCp := Lib.hid m3
      have HM1 := Lib.hid (fun W => pmod_any (u * a + v * c) k W (by omega) (by omega) k1i k2)
      have HM2 := Lib.hid (fun W => pmod_any (u * b + v * d) k W (by omega) (by omega) k1i k2)
      have HN : Hid (∀ W, Calls Try.prog 36 #[.int .i64 (k : Int), .int .i64 ((u * a + v * c) % k), .int .i64 ((u * b + v * d) % k)] W fun e w' => ∃ U V T, NF k ((u * a + v * c) % k) ((u * b + v * d) % k) U V T ∧ e = .returned (.agg #[.int .i64 U, .int .i64 V, .int .i64 T]) ∧ Below W.heap.size W w') := fun W => rleast_any k _ _ W k1i k2 (Int.emod_nonneg _ (by omega)) (Int.emod_lt_of_pos _ (by omega)) (Int.emod_nonneg _ (by omega)) (Int.emod_lt_of_pos _ (by omega))
      have HNm : Hid (∀ U V T, NF k ((u * a + v * c) % k) ((u * b + v * d) % k) U V T → NF k (u * a + v * c) (u * b + v * d) U V T) := fun U V T h => h.of_mod
      clear m3
      go_upto_region 8 with (first
        | (go_at_call 15; ((with_reducible refine (HGd.out _).mono ?_); rintro e w' ⟨rfl, q1, rfl⟩))
        | fail)
      have HB4 := Lib.hid (below_drewN HB3.out q1)
      have HF4 := Lib.hid (HF3.out.drewN q1)
      have HR4 : Hid (RdP (w3.drewN q1) w2.heap.size A cc C) := HR3.out
      have HS4 : Hid (w2.heap.size ≤ (w3.drewN q1).heap.size) := HBb.out.size
      obtain ⟨br, or_, hA, hbr, x1, x2, _⟩ := HRj.out
      have y1 : (w3.drewN q1).cell? ⟨br, or_ + j * 3, none⟩ = some (.int .i64 (u : Int)) := (HBb.out.cell (p := ⟨br, or_ + j * 3, none⟩) hbr).trans x1
      have y2 : (w3.drewN q1).cell? ⟨br, or_ + j * 3 + 1, none⟩ = some (.int .i64 (v : Int)) := (HBb.out.cell (p := ⟨br, or_ + j * 3 + 1, none⟩) hbr).trans x2
      subst hA
      clear HB3 HF3 HR3 HBb x1 x2 HRj hbr HF HB HR f1 f2 f3 f4 hzf
      generalize w3.drewN q1 = W4 at *
      go_region
      have HB5 := Lib.hid HB4.out.drew
      have HF5 := Lib.hid HF4.out.drew
      have HR5 : Hid (RdP W4.drew w2.heap.size (some ⟨br, or_, none⟩) cc C) := HR4.out
      have HS5 : Hid (w2.heap.size ≤ W4.drew.heap.size) := HS4.out
      clear HB4 HF4 HR4 HS4 y1 y2
      generalize W4.drew = W5 at *
      have HIx := Lib.hid (fun (W : World) (x y : Nat) (T : Int) (hb : Below w2.heap.size W5 W) (hm : (x, y) ∈ C) => rfind_any T W ((HR5.out.below hb)) (Nat.le_trans HS5.out hb.size) hm hlen)
      have w1 : IntKind.i64.wrap (u * a) = u * a := IntWalk.i64_in _ (by omega)
      have w2' : IntKind.i64.wrap (v * c) = v * c := IntWalk.i64_in _ (by omega)
      have w3' : IntKind.i64.wrap (u * b) = u * b := IntWalk.i64_in _ (by omega)
      have w4 : IntKind.i64.wrap (v * d) = v * d := IntWalk.i64_in _ (by omega)
      have w5 : IntKind.i64.wrap (u * a + v * c) = u * a + v * c := IntWalk.i64_in _ (by omega)
      have w6 : IntKind.i64.wrap (u * b + v * d) = u * b + v * d := IntWalk.i64_in _ (by omega)
      go_upto_region 9 with fail
      have F_0 : Hid (Four W5.drew w.heap.size a b c d) := HF5.out.drew
      have B_0 := Lib.hid HB5.out.drew
      have D_0 : Hid (Below w2.heap.size W5 W5.drew) := (Below.refl _ _).drew
      go_region_held3 (fun w' => w'.cell? ⟨w.heap.size, 0, none⟩ = some (.int .i64 a) ∧ w'.cell? ⟨w.heap.size, 1, none⟩ = some (.int .i64 b) ∧ w'.cell? ⟨w.heap.size, 2, none⟩ = some (.int .i64 c) ∧ w'.cell? ⟨w.heap.size, 3, none⟩ = some (.int .i64 d))
        (with_reducible first | exact Four.cells F_0.out | exact Four.cells F_1.out | exact Four.cells F_2.out | fail)
        (first
          | (go_at_call 27; ((with_reducible refine (HM1.out _).mono ?_); rintro e w' ⟨rfl, rfl⟩))
          | (go_at_call 27; ((with_reducible refine (HM2.out _).mono ?_); rintro e w' ⟨rfl, rfl⟩))
          | (go_at_call 36; ((with_reducible refine (HN.out _).mono ?_); rintro e z1 ⟨U, V, T, hN, rfl, hb⟩; have HNN := Lib.hid (HNm.out _ _ _ hN); obtain ⟨x, y, rfl, rfl, hmem⟩ := HMm.out _ _ _ _ _ (HNm.out _ _ _ hN) (act_cop HGG.out HCp.out); have F_1 := Lib.hid (F_0.out.below hb); have B_1 := Lib.hid (bel0 B_0.out hb); have HMe := Lib.hid hmem; have D_1 : Hid (Below w2.heap.size W5 z1) := D_0.out.trans (hb.mono (show w2.heap.size ≤ W5.drew.heap.size from HS5.out)); clear hb hN hmem))
          | (go_at_call 41; ((with_reducible refine (HIx.out _ x y T D_1.out HMe.out).mono ?_); rintro e z2 ⟨rfl, hb⟩; have F_2 := Lib.hid (F_1.out.below hb); have B_2 := Lib.hid (bel0 B_1.out hb); clear hb))
          | fail)
      all_goals
        have HE := Lib.hid (HY2.out x y T HNN.out (act_cop HGG.out HCp.out) HMe.out)
        go_wp2_with fail
        refine bodyPost_ret (v := .tuple #[.int .i64 (ix C x y), .int .i64 0]) ?_ rfl ⟨_, _, HE.out, rfl, B_2.out⟩
        simp [results, Try.results24, go_sem, *]
end Go.Proofs.Ytgnekmaonnjfkaa
