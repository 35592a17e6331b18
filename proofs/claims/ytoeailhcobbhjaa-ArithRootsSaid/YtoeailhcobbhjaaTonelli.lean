/- The contract of tonelli: a square root. -/
import Derived.Test.YtoeailhcobbhjaaRoots2
import Derived.IntWalk
namespace Go.Proofs.Ytoeailhcobbhjaa
open Go.RowKit

theorem emod_eq_iff_dvd {p : Nat} {x y : Int} : x % (p : Int) = y % (p : Int) ↔ (p : Int) ∣ x - y := by
  rw [Int.emod_eq_emod_iff_emod_sub_eq_zero]
  exact ⟨Int.dvd_of_emod_eq_zero, Int.emod_eq_zero_of_dvd⟩
theorem small_one {p : Nat} (hp : 1 < p) {x : Int} (h0 : 0 ≤ x) (h1 : x < (p : Int)) : x = 1 ↔ (p : Int) ∣ x - 1 := by
  rw [← emod_eq_iff_dvd, one_emod hp, Int.emod_eq_of_lt h0 h1]
theorem prod_lit {p : Nat} {x y : Int} (hp : (p : Int) ≤ 2147483647) (x0 : 0 ≤ x) (x1 : x < (p : Int)) (y0 : 0 ≤ y) (y1 : y < (p : Int)) : 0 ≤ x * y ∧ x * y ≤ 4611686014132420609 := by
  refine ⟨Int.mul_nonneg x0 y0, ?_⟩
  have : x * y ≤ 2147483647 * 2147483647 := Int.mul_le_mul (by omega) (by omega) y0 (by omega)
  omega
theorem pow_small (t g : Nat) (h : t ≤ 30) : 2 ^ (t - g - 1) ≤ 1073741824 := Nat.le_trans (Nat.pow_le_pow_right (by omega) (show t - g - 1 ≤ 30 by omega)) (by decide)
theorem wrap_pow (t g : Nat) (hpl : 2 ^ (t - g - 1) ≤ 1073741824) : wrap64 ((2 : Int) ^ (t - g - 1)) = ((2 ^ (t - g - 1) : Nat) : Int) := by
  have : ((2 ^ (t - g - 1) : Nat) : Int) = (2 : Int) ^ (t - g - 1) := by simp
  rw [← this]
  generalize 2 ^ (t - g - 1) = x at *
  exact IntWalk.wrap64_in _ ⟨by omega, by omega⟩
theorem two_shift {t g : Nat} (h : t ≤ 30) : wrap64 ((2 : Int) ^ (t - g - 1)) = ((2 ^ (t - g - 1) : Nat) : Int) ∧ ((2 ^ (t - g - 1) : Nat) : Int) ≤ 9223372036854775807 := by
  have h1 := pow_small t g h
  refine ⟨wrap_pow t g h1, ?_⟩
  generalize 2 ^ (t - g - 1) = x at *
  omega
/-- What the inner loop knows: x is rest^(2^g), no earlier power is 1. -/
structure InLog (p : Nat) (rest : Int) (t g : Nat) (x : Int) : Prop where
  lo : 0 ≤ x
  hi : x < (p : Int)
  eq : (p : Int) ∣ x - rest ^ 2 ^ g
  no : ∀ j, j < g → ¬ (p : Int) ∣ rest ^ 2 ^ j - 1
  le : g ≤ t - 1
theorem InLog.next {p : Nat} {s unit root rest x : Int} {t g : Nat} (hp : 1 < p) (ht : Ton p s unit root rest t) (h : InLog p rest t g x) (hx : x ≠ 1) : InLog p rest t (g + 1) (x * x % (p : Int)) := by
  have h0 : ¬ (p : Int) ∣ rest ^ 2 ^ g - 1 := fun hd => hx ((small_one hp h.lo h.hi).2 (dvd_sub_trans h.eq hd))
  refine ⟨Int.emod_nonneg _ (by omega), Int.emod_lt_of_pos _ (by omega), ?_, fun j hj => ?_, ?_⟩
  · rw [sq_pow]
    exact dvd_sub_trans (dvd_emod_sub _ _) (dvd_mul_sub h.eq h.eq)
  · rcases Nat.lt_or_ge j g with h1 | h1
    · exact h.no j h1
    · obtain rfl : j = g := by omega
      exact h0
  · have h1 := h.le
    rcases Nat.lt_or_ge g (t - 1) with h2 | h2
    · omega
    · obtain rfl : g = t - 1 := by omega
      exact absurd ht.re h0
theorem InLog.pos {p : Nat} {rest x : Int} {t g : Nat} (hp : 1 < p) (h : InLog p rest t g x) (hx : x = 1) (hr : rest ≠ 1) (r0 : 0 ≤ rest) (r1 : rest < (p : Int)) : 1 ≤ g ∧ (p : Int) ∣ rest ^ 2 ^ g - 1 := by
  have h1 : (p : Int) ∣ rest ^ 2 ^ g - 1 := by have := dvd_sub_symm h.eq; rwa [hx] at this
  refine ⟨?_, h1⟩
  rcases Nat.eq_zero_or_pos g with h0 | h0
  · subst h0
    rw [show 2 ^ 0 = 1 from rfl, Int.pow_succ, Int.pow_zero, Int.one_mul] at h1
    exact absurd ((small_one hp r0 r1).2 h1) hr
  · exact h0
theorem two_pow_le {p o t : Nat} (hp2 : (p : Int) ≤ 2147483647) (ho : 1 ≤ o) (h : o * 2 ^ t = p - 1) : t ≤ 30 := by
  rcases Nat.lt_or_ge 30 t with h1 | h1
  · have h2 : 2 ^ 31 ≤ 2 ^ t := Nat.pow_le_pow_right (by omega) h1
    have h3 : 1 * 2 ^ t ≤ o * 2 ^ t := Nat.mul_le_mul_right _ ho
    omega
  · exact h1

set_option maxHeartbeats 3200000 in
set_option maxRecDepth 1000000 in
theorem tonelli_any (s p : Nat) (w : World) (hp : Pr p) (h2 : p ≠ 2) (hp2 : (p : Int) ≤ 2147483647) (hs : s < p) (hsq : (p : Int) ∣ (s : Int) ^ (p / 2) - 1) :
    Calls Try.prog 79 #[.int .i64 s, .int .i64 p] w fun e w' => ∃ r : Int, e = .returned (.int .i64 r) ∧ (0 ≤ r ∧ r < (p : Int) ∧ (p : Int) ∣ r * r - s) ∧ w = w' := by
  have hp0 := hp.1
  have HP := Lib.hid hp
  have H2 := Lib.hid h2
  have hodd := pr_odd hp (by omega)
  have HODD := Lib.hid hodd
  obtain ⟨nr, n1, n2, n3⟩ := nonres_kron hp h2
  have HN := Lib.hid n3
  have HSQ := Lib.hid hsq
  have HK := Lib.hid (fun (c : Nat) (hc : c < p) W => kron_any (c : Int) p W (by omega) (by omega) (by omega) (by omega))
  have HPW : Hid (∀ (a : Int) (k : Nat), 0 ≤ a → a < (p : Int) → (k : Int) ≤ 9223372036854775807 → ∀ W : World, Calls Try.prog 75 #[.int .i64 a, .int .i64 k, .int .i64 p] W fun e w' => ∃ r : Int, e = .returned (.int .i64 r) ∧ (0 ≤ r ∧ r < (p : Int)) ∧ Hid ((p : Int) ∣ r - a ^ k) ∧ W = w') := fun a k h0 h1 hk W =>
    (powMod_any a p k W h0 h1 (by omega) hp2 hk).mono fun e w' ⟨he, hw⟩ => ⟨_, he, ⟨Int.emod_nonneg _ (by omega), Int.emod_lt_of_pos _ (by omega)⟩, dvd_emod_sub _ _, hw⟩
  clear hp h2 hodd n3 hsq
  go_enter Try.func79, Try.ntmps79
  go_wp2
  go_loop [5, 6] (fun O T => ∃ o t : Nat, O = .int .i64 o ∧ T = .int .i64 t ∧ 1 ≤ o ∧ o < p ∧ t ≤ 30 ∧ Hid (o * 2 ^ t = p - 1)) (fun O _ => (intOf O).toNat)
  case atStart => exact ⟨p - 1, 0, by go_num, rfl, by omega, by omega, by omega, by show _ = _; simp⟩
  case round =>
    obtain ⟨o, t, rfl, rfl, o1, o2, t1, HOT⟩ := hrel
    by_cases he : o % 2 = 0
    · have he2 : ((o : Int) % 2 == 0) = true := by simp; omega
      have HOT2 : Hid (o / 2 * 2 ^ (t + 1) = p - 1) := by
        show _ = _
        rw [← HOT.out, Nat.pow_succ]
        have : o = 2 * (o / 2) := by omega
        conv => rhs; rw [this]
        grind
      have h3 : 1 ≤ o / 2 := by omega
      have h4 : o / 2 < p := by omega
      have h5 := two_pow_le hp2 h3 HOT2.out
      clear he
      go_wp2
      go_round
      case rel => exact ⟨o / 2, t + 1, by go_num, by go_num, h3, h4, h5, HOT2⟩
      case measure => simp [intOf]; omega
    · have he2 : ((o : Int) % 2 == 0) = false := by rw [beq_eq_false_iff_ne]; omega
      have HE := Lib.hid (show o % 2 = 1 by omega)
      have ht1 : 1 ≤ t := by
        rcases Nat.eq_zero_or_pos t with h0 | h0
        · exfalso
          have h1 := HOT.out
          have h3 := HODD.out
          have h4 := HE.out
          subst h0
          simp at h1
          omega
        · exact h0
      clear he
      go_wp2
      go_loop [7] (fun C => ∃ c : Nat, C = .int .i64 c ∧ 2 ≤ c ∧ c ≤ nr) (fun C => nr - (intOf C).toNat)
      case atStart => exact ⟨2, rfl, by omega, n1⟩
      case round =>
        obtain ⟨c, rfl, c1, c2⟩ := hrel
        have HKC := Lib.hid (fun W => HK.out c (by omega) W)
        by_cases hk : kron (c : Int) p = -1
        · have hk2 : (kron (c : Int) p != -1) = false := by rw [bne_eq_false_iff_eq]; exact hk
          have HNEG := Lib.hid (neg_of_kron HP.out H2.out hk)
          clear hk
          generalize kron (c : Int) p = kc at *
          have ho1 : ((o : Int) + 1) / 2 = (((o + 1) / 2 : Nat) : Int) := by rw [Int.natCast_ediv]; rfl
          have HA1 := Lib.hid (HPW.out c o (by omega) (by omega) (by omega))
          have HA2 := Lib.hid (HPW.out s ((o + 1) / 2) (by omega) (by omega) (by omega))
          rw [← ho1] at HA2
          have HA3 := Lib.hid (HPW.out s o (by omega) (by omega) (by omega))
          clear ho1
          go_wp2_with (first
            | (go_at_call 42; ((with_reducible refine (HKC.out _).mono ?_); rintro e w' ⟨rfl, rfl⟩))
            | (go_at_call 75; ((with_reducible refine (HA1.out _).mono ?_); rintro e w' ⟨un, rfl, ⟨hun0, hun1⟩, HUN, rfl⟩))
            | (go_at_call 75; ((with_reducible refine (HA2.out _).mono ?_); rintro e w' ⟨ro, rfl, ⟨hro0, hro1⟩, HRO, rfl⟩))
            | (go_at_call 75; ((with_reducible refine (HA3.out _).mono ?_); rintro e w' ⟨re, rfl, ⟨hre0, hre1⟩, HRE, rfl⟩)))
          have HTON := Lib.hid (Ton.start HE.out HOT.out ht1 HSQ.out HNEG.out HUN.out HRO.out HRE.out)
          clear HA1 HA2 HA3 HUN HRO HRE HNEG hk2 HKC HOT HE he2
          go_loop [6, 8, 9, 10, 11, 12, 13] (fun T U R E _ _ _ => ∃ (t : Nat) (u r e : Int), T = .int .i64 t ∧ U = .int .i64 u ∧ R = .int .i64 r ∧ E = .int .i64 e ∧ t ≤ 30 ∧ (0 ≤ u ∧ u < (p : Int)) ∧ (0 ≤ r ∧ r < (p : Int)) ∧ (0 ≤ e ∧ e < (p : Int)) ∧ Hid (Ton p s u r e t)) (fun T _ _ _ _ _ _ => (intOf T).toNat)
          case atStart => exact ⟨t, un, ro, re, rfl, rfl, rfl, rfl, t1, ⟨hun0, hun1⟩, ⟨hro0, hro1⟩, ⟨hre0, hre1⟩, HTON.out⟩
          case round =>
            clear hun0 hun1 hro0 hro1 hre0 hre1 HTON t1 ht1
            obtain ⟨t, u, r, e, rfl, rfl, rfl, rfl, tt1, ⟨u0, u1⟩, ⟨r0, r1⟩, ⟨e0, e1⟩, HT⟩ := hrel
            by_cases hx : e = 1
            · have hx2 : (e != 1) = false := by rw [bne_eq_false_iff_eq]; exact hx
              have HX := Lib.hid hx
              clear hx
              go_wp2
              go_ret
              refine ⟨r, rfl, ⟨r0, r1, ?_⟩, rfl⟩
              have := HT.out.sq
              rw [HX.out, Int.mul_one] at this
              exact this
            · have hx2 : (e != 1) = true := by rw [bne_iff_ne]; exact hx
              have HX := Lib.hid hx
              clear hx
              go_wp2
              go_loop [11, 12] (fun G X => ∃ (g : Nat) (x : Int), G = .int .i64 g ∧ X = .int .i64 x ∧ (0 ≤ x ∧ x < (p : Int)) ∧ g ≤ t - 1 ∧ Hid (InLog p e t g x)) (fun G _ => t - (intOf G).toNat)
              case atStart => exact ⟨0, e, rfl, rfl, ⟨e0, e1⟩, by omega, ⟨e0, e1, by rw [show 2 ^ 0 = 1 from rfl, Int.pow_succ, Int.pow_zero, Int.one_mul]; exact dvd_refl_sub _ _, fun j hj => absurd hj (by omega), by omega⟩⟩
              case round =>
                obtain ⟨g, x, rfl, rfl, ⟨x0, x1⟩, hg, HL⟩ := hrel
                by_cases hy : x = 1
                · have hy2 : (x != 1) = false := by rw [bne_eq_false_iff_eq]; exact hy
                  obtain ⟨hg1, hg2⟩ := HL.out.pos hp0 hy HX.out e0 e1
                  have HG2 := Lib.hid hg2
                  clear hy hg2
                  obtain ⟨hwr, hpl⟩ := two_shift (g := g) tt1
                  have HF := Lib.hid (HPW.out u (2 ^ (t - g - 1)) u0 u1 hpl)
                  rw [← hwr] at HF
                  clear hwr hpl
                  go_wp2_with (go_at_call 75; ((with_reducible refine (HF.out _).mono ?_); rintro e' w' ⟨f, rfl, ⟨f0, f1⟩, HF2, rfl⟩; obtain ⟨b1, b2⟩ := prod_lit hp2 f0 f1 f0 f1; obtain ⟨b3, b4⟩ := prod_lit hp2 r0 r1 f0 f1; have v0 := Int.emod_nonneg (f * f) (show (p : Int) ≠ 0 by omega); have v1 := Int.emod_lt_of_pos (f * f) (show 0 < (p : Int) by omega); obtain ⟨b5, b6⟩ := prod_lit hp2 e0 e1 v0 v1))
                  have HS : Hid (Ton p s (f * f % (p : Int)) (r * f % (p : Int)) (e * (f * f % (p : Int)) % (p : Int)) g) := by
                    obtain ⟨k, rfl⟩ : ∃ k, g = k + 1 := ⟨g - 1, by omega⟩
                    exact HT.out.step HP.out (by omega) HG2.out (HL.out.no k (by omega)) (by rw [Nat.sub_sub] at *; exact HF2.out) (dvd_emod_sub _ _) (dvd_emod_sub _ _) (dvd_emod_sub _ _)
                  have q0 := Int.emod_nonneg (r * f) (show (p : Int) ≠ 0 by omega)
                  have q1 := Int.emod_lt_of_pos (r * f) (show 0 < (p : Int) by omega)
                  have q2 := Int.emod_nonneg (e * (f * f % (p : Int))) (show (p : Int) ≠ 0 by omega)
                  have q3 := Int.emod_lt_of_pos (e * (f * f % (p : Int))) (show 0 < (p : Int) by omega)
                  go_round
                  case rel => exact ⟨g, _, _, _, rfl, rfl, rfl, rfl, by omega, ⟨v0, v1⟩, ⟨q0, q1⟩, ⟨q2, q3⟩, HS⟩
                  case measure => simp [intOf]; omega
                · have hy2 : (x != 1) = true := by rw [bne_iff_ne]; exact hy
                  have HN2 := Lib.hid (HL.out.next hp0 HT.out hy)
                  obtain ⟨m1, m2⟩ := prod_lit hp2 x0 x1 x0 x1
                  have hm3 := HN2.out.lo
                  have hm4 := HN2.out.hi
                  have hm5 := HN2.out.le
                  clear hy
                  go_wp2
                  go_round
                  case rel => exact ⟨g + 1, _, by go_num, rfl, ⟨hm3, hm4⟩, hm5, HN2⟩
                  case measure => simp [intOf]; omega
        · have hk2 : (kron (c : Int) p != -1) = true := by rw [bne_iff_ne]; exact hk
          have hcn : c ≠ nr := fun e => by subst e; exact hk HN.out
          clear hk
          generalize kron (c : Int) p = kc at *
          go_wp2_with (go_at_call 42; ((with_reducible refine (HKC.out _).mono ?_); rintro e w' ⟨rfl, rfl⟩))
          go_round
          case rel => exact ⟨c + 1, by go_num, by omega, by omega⟩
          case measure => simp [intOf]; omega
end Go.Proofs.Ytoeailhcobbhjaa
