/- The contract of the code's Act. -/
import Derived.Test.YtgnekmaonnjfkaaIdxL
namespace Go.Proofs.Ytgnekmaonnjfkaa
open Go.RowKit
set_option linter.unusedVariables false

set_option maxHeartbeats 6400000 in
set_option maxRecDepth 1000000 in
theorem pact_any (n i a b c d : Int) (w : World) : Calls Try.prog 23 #[.int .i64 n, .int .i64 i, .agg #[.int .i64 a, .int .i64 b, .int .i64 c, .int .i64 d]] w (ActRet n i a b c d w) := by
  have HL := Lib.hid (fun W => isLevel_any n W)
  cases hlv : lvB n with
  | false =>
    have HE : Hid (ActE n i a b c d 0 2) := ActE.out (.inl hlv)
    rw [hlv] at HL
    clear hlv
    go_enter Try.func23, Try.ntmps23
    go_wp2_with (first
      | (go_at_call 30; ((with_reducible refine (HL.out _).mono ?_); rintro e w' ⟨rfl, rfl⟩))
      | fail)
    refine bodyPost_ret (v := .tuple #[.int .i64 0, .int .i64 2]) ?_ rfl ⟨_, _, HE.out, rfl, below1 _ _⟩
    simp [results, Try.results23, go_sem, *]
  | true =>
    have HO : Hid (i < 0 ∨ ((ptI n).length : Int) ≤ i ∨ fitB a b c d = false → ActE n i a b c d 0 2) := fun h => ActE.out (.inr h)
    have HCo : Hid (0 ≤ i → i < (ptI n).length → fitB a b c d = true → ¬ Int.gcd (a * d - b * c) n = 1 → ActE n i a b c d 0 9) := fun h1 h2 h3 h4 => ActE.cop hlv h1 h2 h3 h4
    have HY : Hid (∀ u v x y : Nat, ∀ T : Int, 0 ≤ i → (ptI n)[i.toNat]? = some (u, v) → fitB a b c d = true → Int.gcd (a * d - b * c) n = 1 → NF n (u * a + v * c) (u * b + v * d) x y T → Cop3 n (u * a + v * c) (u * b + v * d) → (x, y) ∈ ptI n → ActE n i a b c d (ix (ptI n) x y) 0) := fun u v x y T h1 h2 h3 h4 h5 h6 h7 => ActE.yes u v x y T hlv h1 h2 h3 h4 h5 h6 h7
    rw [hlv] at HL
    obtain ⟨k, rfl, k1, k2⟩ := lv_nat hlv
    rw [ptI_yes hlv] at HO HCo HY
    have HG := Lib.hid (fun W => list_any k W k1 k2)
    have hlen := pts_len k2
    have HM : Hid (∀ u v, (u, v) ∈ pts k → u < k ∧ v < k ∧ Cop3 k u v) := fun u v h => by
      obtain ⟨h1, h2, h3⟩ := mem_pts.1 h
      exact ⟨h1, h2, ((ptB_iff h1 h2).1 h3).cop⟩
    have HMm : Hid (∀ c' d' U V T, NF k c' d' U V T → Cop3 k c' d' → ∃ u v : Nat, U = u ∧ V = v ∧ (u, v) ∈ pts k) := fun c' d' U V T h1 h2 => nf_mem k1 h1 h2
    have k1i : 1 ≤ (k : Int) := by omega
    clear hlv
    generalize pts k = C at *
    go_enter Try.func23, Try.ntmps23
    go_upto_region 4 with (first
      | (go_at_call 30; ((with_reducible refine (HL.out _).mono ?_); rintro e w' ⟨rfl, rfl⟩))
      | (go_at_call 37; ((with_reducible refine (HG.out _).mono ?_); rintro e w2 ⟨A, cc, rfl, ho, hb⟩; have HF := Lib.hid ((Four.at w rfl a b c d).below hb); have HR := Lib.hid (own_rdp ho); have HB := Lib.hid (bel1 (Below.refl _ _) hb); clear ho hb))
      | fail)
    by_cases hi0 : i < 0
    · have HE := Lib.hid (HO.out (.inl hi0))
      go_wp2_with fail
      refine bodyPost_ret (v := .tuple #[.int .i64 0, .int .i64 2]) ?_ rfl ⟨_, _, HE.out, rfl, HB.out⟩
      simp [results, Try.results23, go_sem, *]
    by_cases hi1 : (C.length : Int) ≤ i
    · have HE := Lib.hid (HO.out (.inr (.inl hi1)))
      go_wp2_with fail
      refine bodyPost_ret (v := .tuple #[.int .i64 0, .int .i64 2]) ?_ rfl ⟨_, _, HE.out, rfl, HB.out⟩
      simp [results, Try.results23, go_sem, *]
    have hzf := HF.out.lt
    obtain ⟨f1, f2, f3, f4⟩ := HF.out.cells
    cases hft : fitB a b c d with
    | false =>
      have HE := Lib.hid (HO.out (.inr (.inr hft)))
      have HDt := Lib.hid (fun W => det_no a b c d W hft)
      clear hft
      go_wp2_with (first
        | (go_at_call 42; ((with_reducible refine (HDt.out _).mono ?_); rintro e w3 ⟨rfl, hb⟩; have HB3 := Lib.hid (bel0 HB.out hb); clear hb))
        | fail)
      refine bodyPost_ret (v := .tuple #[.int .i64 0, .int .i64 2]) ?_ rfl ⟨_, _, HE.out, rfl, HB3.out⟩
      simp [results, Try.results23, go_sem, *]
    | true =>
      have HDt := Lib.hid (fun W => det_yes a b c d W hft)
      obtain ⟨⟨a1, a2⟩, ⟨b1, b2⟩, ⟨c1, c2⟩, ⟨d1, d2⟩⟩ := fitB_iff.1 hft
      have hp1 := prod_le a1 a2 d1 d2
      have hp2 := prod_le b1 b2 c1 c2
      have HGd := Lib.hid (fun W => gcd_any (a * d - b * c) k W (by unfold Mid; omega) (by unfold Mid; omega))
      have HFt := Lib.hid hft
      obtain ⟨D, hD⟩ : ∃ D, D = a * d - b * c := ⟨_, rfl⟩
      rw [← hD] at HDt HGd HCo HY
      have HDD := Lib.hid hD
      clear hft hD hp1 hp2
      by_cases hg : Int.gcd D k = 1
      case neg =>
        have HE := Lib.hid (HCo.out (by omega) (by omega) HFt.out hg)
        obtain ⟨z, hz⟩ : ∃ z : Int, z = (Int.gcd D k : Nat) := ⟨_, rfl⟩
        have hz1 : (z != 1) = true := by rw [bne_iff_ne]; omega
        rw [← hz] at HGd
        clear hg hz
        go_wp2_with (first
          | (go_at_call 42; ((with_reducible refine (HDt.out _).mono ?_); rintro e w3 ⟨rfl, hb⟩; have HB3 := Lib.hid (bel0 HB.out hb); clear hb))
          | (go_at_call 32; ((with_reducible refine (HGd.out _).mono ?_); rintro e w' ⟨rfl, q1, rfl⟩))
          | fail)
        refine bodyPost_ret (v := .tuple #[.int .i64 0, .int .i64 9]) ?_ rfl ⟨_, _, HE.out, rfl, below_drewN HB3.out q1⟩
        simp [results, Try.results23, go_sem, *]
      obtain ⟨j, rfl⟩ : ∃ j : Nat, i = j := ⟨i.toNat, by omega⟩
      have hj : j < C.length := by omega
      have hji : (j : Int) < (C.length : Int) := by omega
      have hlt : ¬ (C.length : Int) ≤ (j : Int) := by omega
      have hget : C[j]? = some (C[j].1, C[j].2) := by rw [List.getElem?_eq_getElem hj]
      obtain ⟨m1, m2, m3⟩ := HM.out C[j].1 C[j].2 (List.getElem_mem hj)
      have HY2 : Hid (∀ (x y : Nat) (T : Int), NF k (C[j].1 * a + C[j].2 * c) (C[j].1 * b + C[j].2 * d) x y T → Cop3 k (C[j].1 * a + C[j].2 * c) (C[j].1 * b + C[j].2 * d) → (x, y) ∈ C → ActE k j a b c d (ix C x y) 0) := fun x y T h1 h2 h3 => HY.out C[j].1 C[j].2 x y T (by omega) hget HFt.out hg h1 h2 h3
      have HGG : Hid (Int.gcd (a * d - b * c) k = 1) := by rw [← HDD.out]; exact hg
      have HRj : Hid (∃ b o, A = some ⟨b, o, none⟩ ∧ b < w2.heap.size ∧ w2.cell? ⟨b, o + j * 3, none⟩ = some (.int .i64 (C[j].1 : Int)) ∧ w2.cell? ⟨b, o + j * 3 + 1, none⟩ = some (.int .i64 (C[j].2 : Int)) ∧ w2.cell? ⟨b, o + j * 3 + 2, none⟩ = some (.int .i64 1)) := HR.out.at_ hj
      rw [hg] at HGd
      clear hg hget HY HO HCo HM
      generalize C[j].1 = u at *
      generalize C[j].2 = v at *
      obtain ⟨⟨p1, p2⟩, p3, p4⟩ := act_bd (u := u) (v := v) (by omega) (by omega) (by omega) (by omega) a1 a2 c1 c2
      obtain ⟨⟨p5, p6⟩, p7, p8⟩ := act_bd (u := u) (v := v) (by omega) (by omega) (by omega) (by omega) b1 b2 d1 d2
      have HCp := Lib.hid m3
      have HN := Lib.hid (fun W => normal_any k (u * a + v * c) (u * b + v * d) W k1i k2 (by omega) (by omega) (by omega) (by omega))
      clear m3
      go_upto_region 11 with (first
        | (go_at_call 42; ((with_reducible refine (HDt.out _).mono ?_); rintro e w3 ⟨rfl, hb⟩; have HB3 := Lib.hid (bel0 HB.out hb); have HR3 := Lib.hid (HR.out.below hb); have HF3 := Lib.hid (HF.out.below hb); have HBb := Lib.hid hb; clear hb f1 f2 f3 f4))
        | (go_at_call 32; ((with_reducible refine (HGd.out _).mono ?_); rintro e w' ⟨rfl, q1, rfl⟩))
        | fail)
      have HB4 := Lib.hid (below_drewN HB3.out q1)
      have HF4 := Lib.hid (HF3.out.drewN q1)
      have HR4 : Hid (RdP (w3.drewN q1) w2.heap.size A cc C) := HR3.out
      have HS4 : Hid (w2.heap.size ≤ (w3.drewN q1).heap.size) := HBb.out.size
      obtain ⟨br, or_, hA, hbr, x1, x2, _⟩ := HRj.out
      have y1 : (w3.drewN q1).cell? ⟨br, or_ + j * 3, none⟩ = some (.int .i64 (u : Int)) := (HBb.out.cell (p := ⟨br, or_ + j * 3, none⟩) hbr).trans x1
      have y2 : (w3.drewN q1).cell? ⟨br, or_ + j * 3 + 1, none⟩ = some (.int .i64 (v : Int)) := (HBb.out.cell (p := ⟨br, or_ + j * 3 + 1, none⟩) hbr).trans x2
      subst hA
      clear HB3 HF3 HR3 HBb x1 x2 HRj hbr HF HB HR
      generalize w3.drewN q1 = W4 at *
      go_region
      have HB5 := Lib.hid HB4.out.drew
      have HF5 := Lib.hid HF4.out.drew
      have HR5 : Hid (RdP W4.drew w2.heap.size (some ⟨br, or_, none⟩) cc C) := HR4.out
      have HS5 : Hid (w2.heap.size ≤ W4.drew.heap.size) := HS4.out
      clear HB4 HF4 HR4 HS4 y1 y2
      generalize W4.drew = W5 at *
      obtain ⟨f1, f2, f3, f4⟩ := HF5.out.cells
      have hzf := HF5.out.lt
      have HIx := Lib.hid (fun (W : World) (x y : Nat) (T : Int) (hb : Below w2.heap.size W5 W) (hm : (x, y) ∈ C) => index_any T W ((HR5.out.below hb)) (Nat.le_trans HS5.out hb.size) hm hlen)
      go_wp2_with (first
        | (go_at_call 33; ((with_reducible refine (HN.out _).mono ?_); rintro e w6 ⟨U, V, T, hN, rfl, hb⟩; have HNN := Lib.hid hN; obtain ⟨x, y, rfl, rfl, hmem⟩ := HMm.out _ _ _ _ _ hN (act_cop HGG.out HCp.out); have HB6 := Lib.hid (bel0 HB5.out hb); have HMe := Lib.hid hmem; have HBx := Lib.hid (hb.mono HS5.out); clear hb hN hmem f1 f2 f3 f4))
        | (go_at_call 39; ((with_reducible refine (HIx.out _ x y T HBx.out HMe.out).mono ?_); rintro e w7 ⟨rfl, hb⟩; have HB7 := Lib.hid (bel0 HB6.out hb); clear hb))
        | fail)
      have HE := Lib.hid (HY2.out x y T HNN.out (act_cop HGG.out HCp.out) HMe.out)
      refine bodyPost_ret (v := .tuple #[.int .i64 (ix C x y), .int .i64 0]) ?_ rfl ⟨_, _, HE.out, rfl, HB7.out⟩
      simp [results, Try.results23, go_sem, *]
end Go.Proofs.Ytgnekmaonnjfkaa
