/- The contract of halfplaneref03.Crt over any list of congruences. -/
import Derived.Test.YtdhlkffblipbmaaCrtL
namespace Go.Proofs.Ytdhlkffblipbmaa
open Go.RowKit

/-- The reference's step: t is what the inverse gives. -/
theorem ref_math {ar am br bm x t : Int} (ha : 0 ≤ ar) (ham : ar < am) (b1 : 1 ≤ bm) (hd : (Int.gcd am bm : Int) ∣ br % bm - ar)
    (hx : 1 < bm / (Int.gcd am bm : Int) → bm / (Int.gcd am bm : Int) ∣ x * (am / (Int.gcd am bm : Int)) - 1)
    (ht : t = if 1 < bm / (Int.gcd am bm : Int) then ((br % bm - ar).tdiv (Int.gcd am bm : Int) % (bm / (Int.gcd am bm : Int)) * x) % (bm / (Int.gcd am bm : Int)) else 0) :
    0 ≤ t ∧ t < bm / (Int.gcd am bm : Int) ∧ 0 ≤ ar + am * t ∧ ar + am * t < am * (bm / (Int.gcd am bm : Int)) ∧ am ∣ ar + am * t - ar ∧ bm ∣ ar + am * t - br := by
  have hg : 0 < Int.gcd am bm := Int.gcd_pos_of_ne_zero_right am (by omega)
  obtain ⟨a', hA⟩ := Int.gcd_dvd_left am bm
  obtain ⟨b', hB⟩ := Int.gcd_dvd_right am bm
  generalize hG : (Int.gcd am bm : Int) = g at *
  have hg0 : 0 < g := by omega
  have hbq : bm / g = b' := by conv => lhs; arg 1; rw [hB]
                               exact Int.mul_ediv_cancel_left _ (by omega)
  have haq : am / g = a' := by conv => lhs; arg 1; rw [hA]
                               exact Int.mul_ediv_cancel_left _ (by omega)
  rw [hbq] at hx ht ⊢
  rw [haq] at hx
  have hb0 : 0 < b' := by
    rcases Int.lt_or_le 0 b' with h | h
    · exact h
    · have := Int.mul_nonpos_of_nonneg_of_nonpos (Int.le_of_lt hg0) h
      omega
  have t12 : 0 ≤ t ∧ t < b' := by
    rw [ht]
    split
    · exact ⟨Int.emod_nonneg _ (by omega), Int.emod_lt_of_pos _ hb0⟩
    · omega
  obtain ⟨k1, k2⟩ := t12
  have m1 : 0 ≤ am * t := Int.mul_nonneg (by omega) k1
  have m2 : am * t ≤ am * (b' - 1) := Int.mul_le_mul_of_nonneg_left (by omega) (by omega)
  have m3 : am * (b' - 1) = am * b' - am := by rw [Int.mul_sub]; omega
  refine ⟨k1, k2, by omega, by omega, ⟨t, by omega⟩, ?_⟩
  obtain ⟨q, hq⟩ := hd
  obtain ⟨c3, hc3⟩ := dvd_emod_sub br bm
  have key : bm ∣ am * t - g * q := by
    by_cases h1 : 1 < b'
    · obtain ⟨y, hy⟩ := hx h1
      rw [if_pos h1] at ht
      have hgq : (br % bm - ar).tdiv g = q := by rw [hq]; exact Int.mul_tdiv_cancel_left _ (by omega)
      rw [hgq] at ht
      obtain ⟨c1, hc1⟩ := dvd_emod_sub (q % b' * x) b'
      obtain ⟨c2, hc2⟩ := dvd_emod_sub q b'
      rw [← ht] at hc1
      refine ⟨a' * c1 + q * y + x * a' * c2, ?_⟩
      have e1 : t = q * x + b' * (c1 + c2 * x) := by
        have : q % b' = q + b' * c2 := by omega
        rw [this] at hc1
        grind
      have e2 : x * a' = 1 + b' * y := by omega
      rw [e1, hA]
      conv => rhs; rw [hB]
      grind
    · have hb1 : b' = 1 := by omega
      rw [if_neg h1] at ht
      subst ht
      rw [Int.mul_zero, Int.zero_sub]
      rw [hb1, Int.mul_one] at hB
      rw [hB]
      exact Int.dvd_neg.2 (Int.dvd_mul_right g q)
  have e : ar + am * t - br = (am * t - g * q) + bm * c3 := by omega
  rw [e]
  exact Int.dvd_add key (Int.dvd_mul_right _ _)
theorem inv_dvd {am bm x e0 : Int} (b1 : 1 ≤ bm) (ha : 0 ≤ am) (h : InvIs (am / (Int.gcd am bm : Int)) (bm / (Int.gcd am bm : Int)) x e0) :
    bm / (Int.gcd am bm : Int) ∣ x * (am / (Int.gcd am bm : Int)) - 1 ∧ 0 ≤ x ∧ x ≤ bm := by
  have hb : bm ≠ 0 := by omega
  have hg : 0 < Int.gcd am bm := Int.gcd_pos_of_ne_zero_right am hb
  have hp := gcd_parts (a := am) hb
  have e1 : am.tdiv (Int.gcd am bm) = am / (Int.gcd am bm : Int) := Int.tdiv_eq_ediv_of_nonneg ha
  have e2 : ((bm.natAbs / Int.gcd am bm : Nat) : Int) = bm / (Int.gcd am bm : Int) := by
    rw [Int.natCast_ediv, Int.natAbs_of_nonneg (by omega)]
  rw [e1, e2] at hp
  have hle := Int.ediv_le_self (Int.gcd am bm : Int) (show 0 ≤ bm by omega)
  have hnn := Int.ediv_nonneg (show 0 ≤ bm by omega) (show (0 : Int) ≤ (Int.gcd am bm : Int) by omega)
  generalize am / (Int.gcd am bm : Int) = a' at *
  generalize bm / (Int.gcd am bm : Int) = m at *
  rcases h with ⟨_, _, h⟩ | ⟨h, _⟩
  · have hd := h.dvd
    refine ⟨?_, h.lo, ?_⟩
    · have : x * a' - 1 = (x * (a' % m) - ((1 : Nat) : Int)) + m * (x * (a' / m)) := by
        rw [Int.emod_def]; grind
      rw [this]
      exact Int.dvd_add hd (Int.dvd_mul_right _ _)
    · have := h.hi
      rw [Nat.div_one] at this
      omega
  · exact absurd hp h

theorem CW.below_size {B : Nat} {w0 w : World} {r m : Int} (h : CW B w0 r m w) : B ≤ w.heap.size := by have := h.size; omega

set_option maxHeartbeats 1600000 in
set_option maxRecDepth 1000000 in
theorem refCrt_some (L : List (Int × Int)) (a : Addr) (cap : Nat) (w : World) (hcap : L.length ≤ cap) (hcap2 : (cap : Int) ≤ 9223372036854775807) (hab : Hid (0 < L.length → a.block < w.heap.size))
    (hc : Hid (∀ k (hk : k < L.length), w.cell? (a.add (k * 2)) = some (.int .i64 L[k].1) ∧ w.cell? (a.add (k * 2 + 1)) = some (.int .i64 L[k].2))) :
    Calls Try.prog 52 #[.slice (some a) L.length cap] w fun e w' => ∃ r m e0 : Int, e = .returned (.tuple #[.agg #[.int .i64 r, .int .i64 m], .int .i64 e0]) ∧ CrtIs L 0 1 r m e0 ∧ Below w.heap.size w w' := by
  go_enter Try.func52, Try.ntmps52
  go_wp2
  go_loopw [5, 6, 7, 8, 9, 10, 11] (fun i _ _ _ _ _ _ wr => ∃ (k : Nat) (r m : Int), k ≤ L.length ∧ i = .int .i64 k ∧ Hid (0 ≤ r ∧ r < m ∧ m ≤ 2147483647) ∧ Hid (∀ r' m' e, CrtIs (L.drop k) r m r' m' e → CrtIs L 0 1 r' m' e) ∧ Hid (CW w.heap.size w r m wr)) (fun i _ _ _ _ _ _ _ => L.length - (intOf i).toNat)
  case atStart =>
    refine ⟨0, 0, 1, Nat.zero_le _, rfl, by show _ ∧ _; omega, fun r' m' e h => h, ?_⟩
    refine ⟨?_, ?_, ((Below.refl _ _).alloc (Nat.le_refl _) _).alloc (by simp) _⟩
    · rw [Below.heap_alloc _ _ _ (by simp)]; exact heap_alloc_new w _
    · have := heap_alloc_new (w.alloc (.cells #[.int .i64 0, .int .i64 0] 67)) (.cells #[.int .i64 0, .int .i64 1] 67)
      simpa using this
  case round =>
    obtain ⟨k, r, m, hk, rfl, HB, HC, HW⟩ := hrel
    by_cases hlt : k < L.length
    · have hc1 := ((HW.out.below.cell (p := a.add (k * 2)) (by rw [add_block]; exact hab.out (by omega))).trans (hc.out k hlt).1)
      have hc2 := ((HW.out.below.cell (p := a.add (k * 2 + 1)) (by rw [add_block]; exact hab.out (by omega))).trans (hc.out k hlt).2)
      have hc3 := hc2
      rw [add_succ] at hc2
      have hsz := HW.out.size
      obtain ⟨x2, x3, x4, x5⟩ := two_cells HW.out.all
      obtain ⟨x6, x7, x8, x9⟩ := two_cells HW.out.res
      obtain ⟨hb1, hb2, hb3⟩ := HB.out
      have HDR : Hid (L.drop k = (L[k].fst, L[k].snd) :: L.drop (k + 1)) := List.drop_eq_getElem_cons hlt
      generalize L[k].fst = br at *
      generalize L[k].snd = bm at *
      by_cases hin : bm < 1 ∨ 2147483647 < bm
      · have HI := Lib.hid (fun W => refInRange_no bm W hin)
        have HIN := Lib.hid hin
        clear hin
        go_wp2_with (go_at_call 27; ((with_reducible refine (HI.out _).mono ?_); rintro e w' ⟨rfl, rfl⟩))
        refine bodyPost_ret (v := .tuple #[.agg #[.int .i64 0, .int .i64 0], .int .i64 2]) (by simp [results, Try.results52, go_sem, *]) rfl ⟨0, 0, 2, rfl, HC.out _ _ _ (by rw [HDR.out]; exact .inl ⟨by omega, rfl, rfl, .inl ⟨HIN.out, rfl, rfl, rfl⟩⟩), ?_⟩
        exact (HW.out.below.setCell (Nat.le_refl _) _).setCell (Nat.le_refl _) _
      · have b1 : 1 ≤ bm := by omega
        have b2 : bm ≤ 2147483647 := by omega
        clear hin
        have hg0 : 0 < Int.gcd m bm := Int.gcd_pos_of_ne_zero_right m (by omega)
        have hg1 : Int.gcd m bm ≤ bm.natAbs := Nat.le_of_dvd (by omega) (Int.ofNat_dvd_left.1 (Int.gcd_dvd_right m bm))
        have HGE : gcdI m bm = (Int.gcd m bm : Int) := by unfold gcdI; rw [if_neg (by omega)]
        have HGD : ∀ W, Calls Try.prog 19 #[.int .i64 m, .int .i64 bm] W fun e w' => e = .returned (.int .i64 (Int.gcd m bm : Int)) ∧ W = w' := fun W => by
          have := refGcd_any m bm W (by omega) (by omega) (by omega) (by omega)
          rwa [HGE] at this
        have HG := Lib.hid HGD
        clear HGD HGE
        have h1 := Int.emod_nonneg br (show bm ≠ 0 by omega)
        have h2 := Int.emod_lt_of_pos br (show 0 < bm by omega)
        have hg2 : 1 ≤ (Int.gcd m bm : Int) := by omega
        have hg3 : (Int.gcd m bm : Int) ≤ 2147483647 := by omega
        go_wp2_with (first | (go_at_call 27; ((with_reducible refine (refInRange_yes _ _ b1 b2).mono ?_); rintro e w' ⟨rfl, rfl⟩)))
        go_quiet ((go_at_call 19; first | exact quiet_left (HG.out _) | exact quiet_add_left (HG.out _)))
        go_wp2
        go_quiet ((go_at_call 50; first | exact quiet_left (refMod_any br bm _ b1 (by omega)) | exact quiet_add_left (refMod_any br bm _ b1 (by omega))))
        have p1 : 1 ≤ bm / (Int.gcd m bm : Int) := Int.le_ediv_of_mul_le (by omega) (by omega)
        have p2 : bm / (Int.gcd m bm : Int) ≤ 2147483647 := by
          have := Int.ediv_le_self (Int.gcd m bm : Int) (show 0 ≤ bm by omega); omega
        have HIF := Lib.hid (comb_iff (ar := r) (am := m) (br := br) (bm := bm))
        have HDV : Hid ((Int.gcd m bm : Int) ∣ br % bm - r ↔ (Int.gcd m bm : Int) ∣ br - r) := by
          obtain ⟨c3, hc3⟩ := dvd_emod_sub br bm
          have e : br % bm - r = (br - r) + bm * c3 := by omega
          show _ ↔ _
          rw [e]
          constructor
          · intro h
            have := Int.dvd_sub h (Int.dvd_mul_of_dvd_left (c := c3) (Int.gcd_dvd_right m bm))
            rwa [Int.add_sub_cancel] at this
          · intro h
            exact Int.dvd_add h (Int.dvd_mul_of_dvd_left (Int.gcd_dvd_right m bm))
        clear HIF
        by_cases hd : (Int.gcd m bm : Int) ∣ br % bm - r
        · have hd2 : ((br % bm - r).tmod (Int.gcd m bm : Int) == 0) = true := by
            rw [beq_iff_eq]; exact Int.tmod_eq_zero_of_dvd hd
          have HD := Lib.hid hd
          clear hd
          by_cases hl : 2147483647 / (bm / (Int.gcd m bm : Int)) < m
          · have HL : Hid (2147483647 < m * (bm / (Int.gcd m bm : Int))) := (Int.ediv_lt_iff_lt_mul (by omega)).1 hl
            go_wp2
            go_quiet (fail)
            go_wp2
            refine bodyPost_ret (v := .tuple #[.agg #[.int .i64 0, .int .i64 0], .int .i64 7]) (by simp [results, Try.results52, go_sem, *]) rfl ⟨0, 0, 7, rfl, HC.out _ _ _ (by rw [HDR.out]; exact .inl ⟨by omega, rfl, rfl, .inr (.inr (.inl ⟨⟨b1, b2⟩, HDV.out.1 HD.out, HL.out, rfl, rfl, rfl⟩))⟩), ?_⟩
            exact ((below_drewN HW.out.below _).setCell (Nat.le_refl _) _).setCell (Nat.le_refl _) _
          · have hl2 : m ≤ 2147483647 / (bm / (Int.gcd m bm : Int)) := by omega
            have hl3 : m * (bm / (Int.gcd m bm : Int)) ≤ 2147483647 := (Int.le_ediv_iff_mul_le (by omega)).1 hl2
            clear hl
            by_cases hp : 1 < bm / (Int.gcd m bm : Int)
            · go_wp2
              go_quiet (fail)
              have d1 : 0 ≤ m / (Int.gcd m bm : Int) := Int.ediv_nonneg (by omega) (by omega)
              have HV := Lib.hid (fun W => refInverse_any (m / (Int.gcd m bm : Int)) (bm / (Int.gcd m bm : Int)) W p1 p2)
              have HM := Lib.hid (fun W => refMod_any ((br % bm - r).tdiv (Int.gcd m bm : Int)) (bm / (Int.gcd m bm : Int)) W p1 (by omega))
              go_wp2_with (first | (go_at_call 45; ((with_reducible refine (HV.out _).mono ?_); rintro e w' ⟨x, e0, rfl, hinv, rfl⟩; have HINV := Lib.hid (inv_dvd b1 (by omega) hinv); clear hinv)))
              obtain ⟨z1, z2, z3⟩ := HINV.out
              have HZ := Lib.hid z1
              clear z1
              have y1 : 0 ≤ (br % bm - r).tdiv (Int.gcd m bm : Int) % (bm / (Int.gcd m bm : Int)) := Int.emod_nonneg _ (by omega)
              have y2 : (br % bm - r).tdiv (Int.gcd m bm : Int) % (bm / (Int.gcd m bm : Int)) < bm / (Int.gcd m bm : Int) := Int.emod_lt_of_pos _ (by omega)
              have y3 : 0 ≤ (br % bm - r).tdiv (Int.gcd m bm : Int) % (bm / (Int.gcd m bm : Int)) * x := Int.mul_nonneg y1 z2
              have y4 : (br % bm - r).tdiv (Int.gcd m bm : Int) % (bm / (Int.gcd m bm : Int)) * x ≤ 2147483647 * 2147483647 := Int.mul_le_mul (by omega) (by omega) z2 (by omega)
              have HR := ref_math (t := ((br % bm - r).tdiv (Int.gcd m bm : Int) % (bm / (Int.gcd m bm : Int)) * x) % (bm / (Int.gcd m bm : Int))) hb1 hb2 b1 HD.out (fun _ => HZ.out) (by rw [if_pos hp])
              obtain ⟨q1, q2, q3, q4, q5, q6⟩ := HR
              have HX5 := Lib.hid q5
              have HX6 := Lib.hid q6
              have q7 : 0 ≤ m * (((br % bm - r).tdiv (Int.gcd m bm : Int) % (bm / (Int.gcd m bm : Int)) * x) % (bm / (Int.gcd m bm : Int))) := Int.mul_nonneg (by omega) q1
              have q8 : 0 ≤ m * (bm / (Int.gcd m bm : Int)) := by omega
              clear q5 q6
              go_wp2_with (first | (go_at_call 50; ((with_reducible refine (HM.out _).mono ?_); rintro e w' ⟨rfl, rfl⟩)))
              have HCO : Hid (CombIs r m br bm (r + m * (((br % bm - r).tdiv (Int.gcd m bm : Int) % (bm / (Int.gcd m bm : Int)) * x) % (bm / (Int.gcd m bm : Int)))) (m * (bm / (Int.gcd m bm : Int))) 0) :=
                .inr (.inr (.inr ⟨⟨b1, b2⟩, hl3, rfl, q3, q4, HX5.out, HX6.out, rfl⟩))
              go_roundw
              case rel => exact ⟨k + 1, _, _, hlt, by go_num, HCO.out.good, fun a b c h => HC.out a b c (by rw [HDR.out]; exact .inr ⟨_, _, HCO.out, h⟩), (HW.out.on (below_drewN (Below.refl _ _) _)).set _ _⟩
              case measure => simp [intOf]; omega
            · have hp1 : bm / (Int.gcd m bm : Int) = 1 := by omega
              have HR := ref_math (t := 0) (x := 0) hb1 hb2 b1 HD.out (fun h => absurd h hp) (by rw [if_neg hp])
              rw [hp1, Int.mul_zero, Int.add_zero] at HR
              rw [hp1, Int.mul_one] at hl3
              obtain ⟨q1, q2, q3, q4, q5, q6⟩ := HR
              have HCO : Hid (CombIs r m br bm r m 0) :=
                .inr (.inr (.inr ⟨⟨b1, b2⟩, by rw [hp1, Int.mul_one]; exact hl3, by rw [hp1, Int.mul_one], hb1, hb2, q5, q6, rfl⟩))
              clear q5 q6 hp
              go_wp2
              go_quiet (fail)
              go_wp2
              go_roundw
              case rel => exact ⟨k + 1, _, _, hlt, by go_num, HCO.out.good, fun a b c h => HC.out a b c (by rw [HDR.out]; exact .inr ⟨_, _, HCO.out, h⟩), (HW.out.on (below_drewN (Below.refl _ _) _)).set _ _⟩
              case measure => simp [intOf]; omega
        · have hd2 : ((br % bm - r).tmod (Int.gcd m bm : Int) == 0) = false := by
            rw [beq_eq_false_iff_ne]; intro h; exact hd (Int.dvd_of_tmod_eq_zero h)
          have HD := Lib.hid (fun h => hd (HDV.out.2 h))
          clear hd HDV
          go_wp2
          refine bodyPost_ret (v := .tuple #[.agg #[.int .i64 0, .int .i64 0], .int .i64 24]) (by simp [results, Try.results52, go_sem, *]) rfl ⟨0, 0, 24, rfl, HC.out _ _ _ (by rw [HDR.out]; exact .inl ⟨by omega, rfl, rfl, .inr (.inl ⟨⟨b1, b2⟩, HD.out, rfl, rfl, rfl⟩)⟩), ?_⟩
          exact ((below_drewN HW.out.below _).setCell (Nat.le_refl _) _).setCell (Nat.le_refl _) _
    · have hkl : k = L.length := by omega
      subst hkl
      have HF := HC.out r m 0 (by rw [List.drop_length]; exact ⟨rfl, rfl, rfl⟩)
      have HF2 := Lib.hid HF
      clear HF
      obtain ⟨x2, x3, x4, x5⟩ := two_cells HW.out.all
      obtain ⟨x6, x7, x8, x9⟩ := two_cells HW.out.res
      go_wp2
      refine bodyPost_ret (v := .tuple #[.agg #[.int .i64 r, .int .i64 m], .int .i64 0]) (by simp [results, Try.results52, go_sem, *]) rfl ⟨r, m, 0, rfl, HF2.out, ?_⟩
      exact (HW.out.below.setCell (Nat.le_refl _) _).setCell (Nat.le_refl _) _
end Go.Proofs.Ytdhlkffblipbmaa
