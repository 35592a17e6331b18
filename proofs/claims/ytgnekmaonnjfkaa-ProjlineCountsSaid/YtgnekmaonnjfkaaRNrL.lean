/- The contract of the reference's Least. -/
import Derived.Test.YtgnekmaonnjfkaaNorL
namespace Go.Proofs.Ytgnekmaonnjfkaa
open Go.RowKit
set_option linter.unusedVariables false

/-- The boxes of Least: the result, x. -/
structure RL (w wr : World) (U V S : Int) : Prop where
  res : Tri wr w.heap.size 0 0 0
  x : Tri wr (w.heap.size + 1) U V S
  bel : Below w.heap.size w wr
theorem RL.start (w : World) (U V S : Int) : RL w ((w.alloc (.cells #[.int .i64 0, .int .i64 0, .int .i64 0] 24)).alloc (.cells #[.int .i64 U, .int .i64 V, .int .i64 S] 24)) U V S :=
  ⟨(Tri.at w rfl 0 0 0).alloc _, Tri.at (w.alloc _) (by simp) U V S, below2 _ _ _⟩
theorem RL.drewN {w wr : World} {U V S : Int} (h : RL w wr U V S) (k : Nat) : RL w (wr.drewN k) U V S := ⟨h.res.drewN k, h.x.drewN k, below_drewN h.bel k⟩
theorem RL.drew {w wr : World} {U V S : Int} (h : RL w wr U V S) : RL w wr.drew U V S := ⟨h.res.drew, h.x.drew, h.bel.drew⟩
theorem RL.set {w wr : World} {U V S : Int} (h : RL w wr U V S) (U' V' S' : Int) : RL w (((wr.setCell ⟨w.heap.size + 1, 0, none⟩ (.int .i64 U')).setCell ⟨w.heap.size + 1, 1, none⟩ (.int .i64 V')).setCell ⟨w.heap.size + 1, 2, none⟩ (.int .i64 S')) U' V' S' :=
  ⟨h.res.other (by omega) _ _ _, h.x.set _ _ _, below_set3 h.bel (by omega) _ _ _⟩
theorem RL.set2 {w wr : World} {U V S : Int} (h : RL w wr U V S) (S' : Int) : RL w (wr.setCell ⟨w.heap.size + 1, 2, none⟩ (.int .i64 S')) U V S' :=
  ⟨set_ne h.res (by omega) _, h.x.set2 _, h.bel.setCell (show w.heap.size ≤ w.heap.size + 1 by omega) _⟩
theorem inv_cond {n t S : Int} : t * S % n = 1 % n ↔ n ∣ t * S - 1 := by
  rw [Int.emod_eq_emod_iff_emod_sub_eq_zero]
  exact ⟨Int.dvd_of_emod_eq_zero, Int.emod_eq_zero_of_dvd⟩
set_option maxHeartbeats 6400000 in
set_option maxRecDepth 1000000 in
theorem rleast_any (n c d : Int) (w : World) (n1 : 1 ≤ n) (n2 : n ≤ 120) (c0 : 0 ≤ c) (c1 : c < n) (d0 : 0 ≤ d) (d1 : d < n) :
    Calls Try.prog 36 #[.int .i64 n, .int .i64 c, .int .i64 d] w fun e w' => ∃ U V T, NF n c d U V T ∧ e = .returned (.agg #[.int .i64 U, .int .i64 V, .int .i64 T]) ∧ Below w.heap.size w w' := by
  have R0 := Lib.hid (RL.start w n n 0)
  go_enter Try.func36, Try.ntmps36
  go_upto_region 2 with fail
  generalize (w.alloc (.cells #[.int .i64 0, .int .i64 0, .int .i64 0] 24)).alloc (.cells #[.int .i64 n, .int .i64 n, .int .i64 0] 24) = W0 at *
  go_wp2
  go_loopw [8, 9, 10] (fun s _ _ wr => ∃ s' U V S : Int, s = .int .i64 s' ∧ 1 ≤ s' ∧ s' ≤ n + 1 ∧ 0 ≤ U ∧ U ≤ n ∧ 0 ≤ V ∧ V ≤ n ∧ Hid (LSt n c d s' U V S) ∧ Hid (RL w wr U V S)) (fun s _ _ _ => (n + 1 - intOf s).toNat)
  case atStart => exact ⟨1, n, n, 0, rfl, by omega, by omega, by omega, by omega, by omega, by omega, .inl ⟨rfl, rfl, rfl, rfl⟩, R0.out⟩
  case round =>
    clear R0
    obtain ⟨s, U, V, S, rfl, s1, s2, U0, U1, V0, V1, HS, HR⟩ := hrel
    by_cases hs : s ≤ n
    · have HG := Lib.hid (fun W => rGcd_any s n W (by unfold Mid; omega) (by unfold Mid; omega))
      by_cases hg : Int.gcd s n = 1
      · obtain ⟨p0, p1⟩ := prod_bd (show 0 ≤ s by omega) (by omega) c0 (by omega)
        obtain ⟨p2, p3⟩ := prod_bd (show 0 ≤ s by omega) (by omega) d0 (by omega)
        have r0 := Int.emod_nonneg (s * c) (show n ≠ 0 by omega)
        have r1 := Int.emod_lt_of_pos (s * c) (show 0 < n by omega)
        have r2 := Int.emod_nonneg (s * d) (show n ≠ 0 by omega)
        have r3 := Int.emod_lt_of_pos (s * d) (show 0 < n by omega)
        have HT : Hid (s * c % n < U ∨ (s * c % n = U ∧ s * d % n < V) → LSt n c d (s + 1) (s * c % n) (s * d % n) s) := fun h => LSt.take HS.out n1 s1 hg h
        have HK : Hid (¬ s * c % n < U → ¬ (s * c % n = U ∧ s * d % n < V) → LSt n c d (s + 1) U V S) := fun h h2 => LSt.keep HS.out n1 s1 h h2
        rw [hg] at HG
        clear hg HS
        go_upto_region 6 with (first
          | (go_at_call 15; ((with_reducible refine (HG.out _).mono ?_); rintro e w' ⟨rfl, q1, rfl⟩; have HR2 := Lib.hid (HR.out.drewN q1); clear HR))
          | fail)
        generalize wr.drewN q1 = W2 at *
        go_region
        have HR3 := Lib.hid HR2.out.drew
        clear HR2
        generalize W2.drew = W3 at *
        obtain ⟨k1, k2, k3⟩ := HR3.out.x.cells
        have hz := HR3.out.x.lt
        have hf := HR3.out.x.free
        by_cases h1 : s * c % n < U
        · have HN := Lib.hid (HT.out (.inl h1))
          have HRn := Lib.hid (HR3.out.set (s * c % n) (s * d % n) s)
          clear HT HK
          go_wp2_with fail
          go_roundw
          case rel => exact ⟨s + 1, _, _, s, rfl, by omega, by omega, by omega, by omega, by omega, by omega, HN.out, HRn.out⟩
          case measure => simp [intOf]; omega
        · by_cases h2 : s * c % n = U
          · by_cases h3 : s * d % n < V
            · have HN := Lib.hid (HT.out (.inr ⟨h2, h3⟩))
              have HRn := Lib.hid (HR3.out.set (s * c % n) (s * d % n) s)
              have hb1 : (s * c % n == U) = true := by rw [beq_iff_eq]; exact h2
              clear HT HK h2
              go_wp2_with fail
              go_roundw
              case rel => exact ⟨s + 1, _, _, s, rfl, by omega, by omega, by omega, by omega, by omega, by omega, HN.out, HRn.out⟩
              case measure => simp [intOf]; omega
            · have HN := Lib.hid (HK.out (by omega) (fun h => h3 h.2))
              have hb1 : (s * c % n == U) = true := by rw [beq_iff_eq]; exact h2
              clear HT HK h2
              go_wp2_with fail
              go_roundw
              case rel => exact ⟨s + 1, _, _, S, rfl, by omega, by omega, by omega, by omega, by omega, by omega, HN.out, HR3.out⟩
              case measure => simp [intOf]; omega
          · have HN := Lib.hid (HK.out (by omega) (fun h => h2 h.1))
            have hb1 : (s * c % n == U) = false := by rw [beq_eq_false_iff_ne]; exact h2
            clear HT HK h2
            go_wp2_with fail
            go_roundw
            case rel => exact ⟨s + 1, _, _, S, rfl, by omega, by omega, by omega, by omega, by omega, by omega, HN.out, HR3.out⟩
            case measure => simp [intOf]; omega
      · have HN := Lib.hid (LSt.skip HS.out s1 hg)
        obtain ⟨z, hz⟩ : ∃ z : Int, z = (Int.gcd s n : Nat) := ⟨_, rfl⟩
        have hz1 : (z != 1) = true := by rw [bne_iff_ne]; omega
        rw [← hz] at HG
        clear hg hz
        go_wp2_with (first
          | (go_at_call 15; ((with_reducible refine (HG.out _).mono ?_); rintro e w' ⟨rfl, q1, rfl⟩))
          | fail)
        go_roundw
        case rel => exact ⟨s + 1, U, V, S, rfl, by omega, by omega, by omega, by omega, by omega, by omega, HN.out, HR.out.drewN q1⟩
        case measure => simp [intOf]; omega
    · obtain rfl : s = n + 1 := by omega
      obtain ⟨hS1, hS2⟩ := HS.out.unit n1 (by omega)
      obtain ⟨T, t1, tn, hT⟩ := inv_some n1 hS1
      have hSb : S ≤ n := by have := (HS.out.bd n1).2.2.2.2.2; rcases HS.out with h | ⟨_, h, _⟩ <;> omega
      have HY : Hid (∀ T', 1 ≤ T' → T' ≤ n → n ∣ T' * S - 1 → NF n c d U V T') := fun T' h1 h2 h3 => HS.out.nf n1 (by omega) h1 h2 h3
      have HT := Lib.hid hT
      clear hS1 hT HS hs
      go_wp2_with fail
      go_loopw [11] (fun t wr => ∃ t' : Int, t = .int .i64 t' ∧ 1 ≤ t' ∧ t' ≤ T ∧ Hid (RL w wr U V S)) (fun t _ => (T - intOf t).toNat)
      case atStart => exact ⟨1, rfl, by omega, t1, HR.out⟩
      case round =>
        clear HR
        obtain ⟨t, rfl, b1, b2, HR⟩ := hrel
        have ht : t ≤ n := by omega
        obtain ⟨p0, p1⟩ := prod_bd (show 0 ≤ t by omega) (by omega) (show 0 ≤ S by omega) (by omega)
        obtain ⟨k1, k2, k3⟩ := HR.out.x.cells
        have hz := HR.out.x.lt
        have hf := HR.out.x.free
        by_cases hc : t * S % n = 1 % n
        · have HE := Lib.hid (HY.out t b1 ht (inv_cond.1 hc))
          have hb1 : (t * S % n == 1 % n) = true := by rw [beq_iff_eq]; exact hc
          have HRn : Hid (RL w ((wr.setCell ⟨w.heap.size + 1, 2, none⟩ (.int .i64 t)).drew) U V t) := (HR.out.set2 t).drew
          clear HT hc HY
          go_upto_region 12 with fail
          go_region
          go_upto_region 14 with fail
          clear HR k1 k2 k3 hz hf
          generalize (wr.setCell ⟨w.heap.size + 1, 2, none⟩ (.int .i64 t)).drew = Wz at *
          obtain ⟨j1, j2, j3⟩ := HRn.out.x.cells
          obtain ⟨m1, m2, m3⟩ := HRn.out.res.cells
          have hg := HRn.out.res.free
          have hy := HRn.out.res.lt
          go_wp2_with fail
          obtain ⟨d1, d2, d3⟩ := (HRn.out.res.set U V t).cells
          refine bodyPost_ret (v := .agg #[.int .i64 U, .int .i64 V, .int .i64 t]) ?_ rfl ⟨_, _, _, HE.out, rfl, ?_⟩
          · simp [results, Try.results36, go_sem, *]
          · exact below_set3 HRn.out.bel (Nat.le_refl _) _ _ _
        · have hb1 : (t * S % n == 1 % n) = false := by rw [beq_eq_false_iff_ne]; exact hc
          have htT : t < T := by
            rcases Int.lt_or_le t T with h | h
            · exact h
            · obtain rfl : t = T := by omega
              exact absurd (inv_cond.2 HT.out) hc
          clear HT hc HY
          go_upto_region 12 with fail
          go_region
          go_wp2_with fail
          go_roundw
          case rel => exact ⟨t + 1, rfl, by omega, by omega, HR.out.drew⟩
          case measure => simp [intOf]; omega
end Go.Proofs.Ytgnekmaonnjfkaa
