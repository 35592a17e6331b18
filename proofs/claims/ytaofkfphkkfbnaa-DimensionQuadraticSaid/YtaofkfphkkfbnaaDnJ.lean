/- The reference's Lambda, beta and formula. -/
import Derived.Test.YtaofkfphkkfbnaaDnI
namespace Go.Proofs.Ytaofkfphkkfbnaa
open Go.RowKit
set_option linter.unusedVariables false
set_option linter.unusedSimpArgs false

set_option maxHeartbeats 6400000 in
set_option maxRecDepth 1000000 in
theorem rlam_any (n f : Nat) (w : World) (n1 : 1 ≤ n) (n2 : (n : Int) ≤ 120) (f1 : 1 ≤ f) (f2 : (f : Int) ≤ 120)
    (HB : Hid (∀ t, t < n → lamR n f t ≤ 1000))
    (HLf : Hid (∀ t, t < n → (primeB (t + 2) && decide (n % (t + 2) = 0)) = true → locF (t + 2) (strip n (t + 2) n).1 (strip f (t + 2) f).1 ≤ 1000 ∧ (strip n (t + 2) n).1 ≤ 7 ∧ (strip f (t + 2) f).1 ≤ (strip n (t + 2) n).1 ∧ 1 ≤ (strip n (t + 2) n).1))
    (HE : Hid (lamR n f (n - 1) = lamP n f)) :
    Calls Try.prog 48 #[.int .i64 (n : Int), .int .i64 (f : Int)] w fun e w' => e = .returned (.int .i64 (lamP n f : Nat)) ∧ w = w' := by
  have H0 : Hid (lamR n f 0 = 1) := rfl
  have HS := Lib.hid (fun t => show lamR n f (t + 1) = (if (primeB (t + 2) && decide (n % (t + 2) = 0)) = true then lamR n f t * locF (t + 2) (strip n (t + 2) n).1 (strip f (t + 2) f).1 else lamR n f t) from rfl)
  go_enter Try.func48, Try.ntmps48
  go_wp2
  go_loopw [5, 6, 7, 8, 9, 10] (fun X P _ _ _ _ wr => ∃ t : Nat, P = .int .i64 ((t + 2 : Nat) : Int) ∧ X = .int .i64 (lamR n f t : Nat) ∧ t < n ∧ wr = w) (fun _ P _ _ _ _ _ => n + 1 - (intOf P).toNat)
  case atStart => exact ⟨0, rfl, by rw [H0.out]; rfl, by omega, rfl⟩
  case round =>
    obtain ⟨t, rfl, rfl, ht, rfl⟩ := hrel
    by_cases htn : t + 2 ≤ n
    · have hti : (((t + 2 : Nat)) : Int) ≤ (n : Int) := by omega
      have hb := HB.out t ht
      have hs := HS.out t
      obtain ⟨p, hp⟩ : ∃ p, p = t + 2 := ⟨_, rfl⟩
      have HP2 : Hid (primeB p = prR p (p - 2)) := rfl
      have HR0 : Hid (prR p 0 = true) := rfl
      have HRS := Lib.hid (fun j => show prR p (j + 1) = (prR p j && decide (p % (j + 2) ≠ 0)) from rfl)
      have hlf := HLf.out t ht
      rw [← hp] at hti hs hlf ⊢
      have Hs := Lib.hid hs
      have Hp := Lib.hid hp
      have p2 : 2 ≤ (p : Int) := by omega
      have p3 : (p : Int) ≤ 120 := by omega
      have HLp := Lib.hid hlf
      clear hs hp hlf
      generalize lamR n f t = x at *
      have hxi : (x : Int) ≤ 1000 := by omega
      go_wp2
      go_loopw [7, 8] (fun B Q wi => ∃ j : Nat, Q = .int .i64 ((j + 2 : Nat) : Int) ∧ B = .bool (prR p j) ∧ j + 2 ≤ p ∧ wi = wr) (fun _ Q _ => p - (intOf Q).toNat)
      case atStart => exact ⟨0, rfl, by rw [HR0.out], by have := Hp.out; omega, rfl⟩
      case round =>
        obtain ⟨j, rfl, rfl, hj, rfl⟩ := hrel
        by_cases hjp : j + 2 < p
        · have hji : (((j + 2 : Nat)) : Int) < (p : Int) := by omega
          have hR := HRS.out j
          have hmod : (p : Int) % ((j + 2 : Nat) : Int) = ((p % (j + 2) : Nat) : Int) := (Int.natCast_emod p (j + 2)).symm
          obtain ⟨q, hq⟩ : ∃ q, q = j + 2 := ⟨_, rfl⟩
          rw [← hq] at hji hR hmod hj ⊢
          have HQ := Lib.hid hq
          have hq1 : 2 ≤ (q : Int) := by omega
          have hq0 : ((q : Int) == 0) = false := by rw [beq_eq_false_iff_ne]; omega
          clear hq hjp hj
          cases hB : prR p j with
          | false =>
            rw [hB] at hR
            have hN : Hid (prR p (j + 1) = false) := by show _ = _; rw [hR]; rfl
            clear hR hB hmod
            go_wp2
            go_roundw
            case rel => exact ⟨j + 1, by have := HQ.out; go_num, by first | (rw [hN.out]; done) | (rw [hN.out]; exact congrArg Value.bool (by simp only [bne, hez]; rfl)), by have := HQ.out; omega, trivial⟩
            case measure => have := HQ.out; simp [intOf]; omega
          | true =>
            rw [hB] at hR
            by_cases e : p % q = 0
            · have hN : Hid (prR p (j + 1) = false) := by show _ = _; rw [hR, e]; rfl
              rw [e] at hmod
              have hez : ((p : Int) % (q : Int) == 0) = true := by rw [hmod]; rfl
              clear hR hB hmod e
              go_wp2
              go_roundw
              case rel => exact ⟨j + 1, by have := HQ.out; go_num, by first | (rw [hN.out]; done) | (rw [hN.out]; exact congrArg Value.bool (by simp only [bne, hez]; rfl)), by have := HQ.out; omega, trivial⟩
              case measure => have := HQ.out; simp [intOf]; omega
            · have hN : Hid (prR p (j + 1) = true) := by show _ = _; rw [hR]; simpa using e
              have hez : ((p : Int) % (q : Int) == 0) = false := by rw [hmod, beq_eq_false_iff_ne]; omega
              clear hR hB hmod e
              go_wp2
              go_roundw
              case rel => exact ⟨j + 1, by have := HQ.out; go_num, by first | (rw [hN.out]; done) | (rw [hN.out]; exact congrArg Value.bool (by simp only [bne, hez]; rfl)), by have := HQ.out; omega, trivial⟩
              case measure => have := HQ.out; simp [intOf]; omega
        · have hjp2 : j = p - 2 := by omega
          have hk3 : ¬ (((j + 2 : Nat)) : Int) < (p : Int) := by omega
          subst hjp2
          rw [← HP2.out]
          have HPj := Lib.hid hj
          have HPl : Hid ((p - 2 + 2 : Nat) = p) := by show _ = _; omega
          rw [HPl.out] at hk3 ⊢
          clear hjp hj
          have hmodn : (n : Int) % (p : Int) = ((n % p : Nat) : Int) := (Int.natCast_emod n p).symm
          have hp0 : ((p : Int) == 0) = false := by rw [beq_eq_false_iff_ne]; omega
          cases hPr : primeB p with
          | false =>
            have hN : Hid (lamR n f (t + 1) = x) := by show _ = _; rw [Hs.out, hPr]; rfl
            clear hPr hmodn
            go_wp2
            go_roundw
            case rel => exact ⟨t + 1, by have := Hp.out; go_num, by rw [hN.out], by have := Hp.out; omega, trivial⟩
            case measure => have := Hp.out; simp [intOf]; omega
          | true =>
            by_cases e : n % p = 0
            · obtain ⟨l1, l2, l3, l4⟩ := HLp.out (by rw [hPr, e]; rfl)
              have HEn := Lib.hid (fun V => rexp_any n p V n1 n2 p2 p3)
              have HEf := Lib.hid (fun V => rexp_any f p V f1 f2 p2 p3)
              have hN : Hid (lamR n f (t + 1) = x * locF p (strip n p n).1 (strip f p f).1) := by show _ = _; rw [Hs.out, hPr, e]; rfl
              have hb2 : x * locF p (strip n p n).1 (strip f p f).1 ≤ 1000 := by have := HB.out (t + 1) (by have := Hp.out; omega); rw [hN.out] at this; exact this
              rw [e] at hmodn
              have hez : ((n : Int) % (p : Int) == 0) = true := by rw [hmodn]; rfl
              clear hPr hmodn e HLp
              generalize (strip n p n).1 = r at *
              generalize (strip f p f).1 = s at *
              have r1 : 1 ≤ (r : Int) := by omega
              have r2 : (r : Int) ≤ 7 := by omega
              have s2 : (s : Int) ≤ 7 := by omega
              have hpn : 2 ≤ p := by omega
              by_cases h1 : r < 2 * s
              · have el : locF p r s = 2 * p ^ (r - s) := by unfold locF; rw [if_pos h1]
                rw [el] at l1 hb2 hN
                have HPw := Lib.hid (fun V => rpow_any p (r - s) V p3 (by omega) (pow_le_of hpn (show p ^ (r - s) ≤ 1000000 by omega)))
                have hi : (r : Int) < 2 * (s : Int) := by omega
                have hsub : (r : Int) - (s : Int) = ((r - s : Nat) : Int) := by omega
                have hml : (x : Int) * (2 * ((p ^ (r - s) : Nat) : Int)) = ((x * (2 * p ^ (r - s)) : Nat) : Int) := by simp
                have hyb : ((p ^ (r - s) : Nat) : Int) ≤ 1000 := by omega
                clear el h1 l1
                generalize x * (2 * p ^ (r - s)) = z at *
                generalize p ^ (r - s) = y at *
                generalize r - s = dd at *
                have hz4 : (z : Int) ≤ 1000 := by omega
                clear hb2
                go_wp2_with (first
                  | (go_at_call 79; first | ((with_reducible refine (HEn.out _).mono ?_); rintro e w1 ⟨rfl, rfl⟩) | ((with_reducible refine (HEf.out _).mono ?_); rintro e w1 ⟨rfl, rfl⟩) | fail)
                  | (go_at_call 80; ((with_reducible refine (HPw.out _).mono ?_); rintro e w1 ⟨rfl, rfl⟩))
                  | fail)
                go_roundw
                case rel => exact ⟨t + 1, by have := Hp.out; go_num, by rw [hN.out], by have := Hp.out; omega, trivial⟩
                case measure => have := Hp.out; simp [intOf]; omega
              · have hi : ¬ (r : Int) < 2 * (s : Int) := by omega
                have hi2 : 2 * (s : Int) ≤ (r : Int) := by omega
                by_cases h2 : r % 2 = 1
                · have el : locF p r s = 2 * p ^ ((r - 1) / 2) := by unfold locF; rw [if_neg h1, if_pos h2]
                  rw [el] at l1 hb2 hN
                  have HPw := Lib.hid (fun V => rpow_any p ((r - 1) / 2) V p3 (by omega) (pow_le_of hpn (show p ^ ((r - 1) / 2) ≤ 1000000 by omega)))
                  have e1 : ((r : Int) % 2 == 0) = false := by rw [beq_eq_false_iff_ne]; omega
                  have hsub : ((r : Int) - 1) / 2 = (((r - 1) / 2 : Nat) : Int) := by omega
                  have hr0 : 0 ≤ (r : Int) - 1 := by omega
                  have hml : (x : Int) * (2 * ((p ^ ((r - 1) / 2) : Nat) : Int)) = ((x * (2 * p ^ ((r - 1) / 2)) : Nat) : Int) := by simp
                  have hyb : ((p ^ ((r - 1) / 2) : Nat) : Int) ≤ 1000 := by omega
                  clear el h1 l1 h2
                  generalize x * (2 * p ^ ((r - 1) / 2)) = z at *
                  generalize p ^ ((r - 1) / 2) = y at *
                  generalize (r - 1) / 2 = dd at *
                  have hz4 : (z : Int) ≤ 1000 := by omega
                  clear hb2
                  go_wp2_with (first
                    | (go_at_call 79; first | ((with_reducible refine (HEn.out _).mono ?_); rintro e w1 ⟨rfl, rfl⟩) | ((with_reducible refine (HEf.out _).mono ?_); rintro e w1 ⟨rfl, rfl⟩) | fail)
                    | (go_at_call 80; ((with_reducible refine (HPw.out _).mono ?_); rintro e w1 ⟨rfl, rfl⟩))
                    | fail)
                  go_roundw
                  case rel => exact ⟨t + 1, by have := Hp.out; go_num, by rw [hN.out], by have := Hp.out; omega, trivial⟩
                  case measure => have := Hp.out; simp [intOf]; omega
                · have el : locF p r s = p ^ (r / 2) + p ^ (r / 2 - 1) := by unfold locF; rw [if_neg h1, if_neg h2]
                  rw [el] at l1 hb2 hN
                  have HPw := Lib.hid (fun V => rpow_any p (r / 2) V p3 (by omega) (pow_le_of hpn (show p ^ (r / 2) ≤ 1000000 by omega)))
                  have HPv := Lib.hid (fun V => rpow_any p (r / 2 - 1) V p3 (by omega) (pow_le_of hpn (show p ^ (r / 2 - 1) ≤ 1000000 by omega)))
                  have e1 : ((r : Int) % 2 == 0) = true := by rw [beq_iff_eq]; omega
                  have hd : (r : Int) / 2 = ((r / 2 : Nat) : Int) := by omega
                  have hsub : ((r / 2 : Nat) : Int) - 1 = ((r / 2 - 1 : Nat) : Int) := by omega
                  have hd3 : ((r / 2 : Nat) : Int) ≤ 7 := by omega
                  have hml : (x : Int) * (((p ^ (r / 2) : Nat) : Int) + ((p ^ (r / 2 - 1) : Nat) : Int)) = ((x * (p ^ (r / 2) + p ^ (r / 2 - 1)) : Nat) : Int) := by simp
                  have hyb : ((p ^ (r / 2) : Nat) : Int) ≤ 1000 := by omega
                  have hyb2 : ((p ^ (r / 2 - 1) : Nat) : Int) ≤ 1000 := by omega
                  clear el h1 l1 h2
                  generalize x * (p ^ (r / 2) + p ^ (r / 2 - 1)) = z at *
                  generalize p ^ (r / 2) = y at *
                  generalize p ^ (r / 2 - 1) = y' at *
                  generalize r / 2 - 1 = d' at *
                  generalize r / 2 = dd at *
                  have hz4 : (z : Int) ≤ 1000 := by omega
                  clear hb2
                  go_wp2_with (first
                    | (go_at_call 79; first | ((with_reducible refine (HEn.out _).mono ?_); rintro e w1 ⟨rfl, rfl⟩) | ((with_reducible refine (HEf.out _).mono ?_); rintro e w1 ⟨rfl, rfl⟩) | fail)
                    | (go_at_call 80; first | ((with_reducible refine (HPw.out _).mono ?_); rintro e w1 ⟨rfl, rfl⟩) | ((with_reducible refine (HPv.out _).mono ?_); rintro e w1 ⟨rfl, rfl⟩) | fail)
                    | fail)
                  go_roundw
                  case rel => exact ⟨t + 1, by have := Hp.out; go_num, by rw [hN.out], by have := Hp.out; omega, trivial⟩
                  case measure => have := Hp.out; simp [intOf]; omega
            · have hN : Hid (lamR n f (t + 1) = x) := by show _ = _; rw [Hs.out, hPr, if_neg (by simpa using e)]
              have hez : ((n : Int) % (p : Int) == 0) = false := by rw [hmodn, beq_eq_false_iff_ne]; omega
              clear hPr hmodn e
              go_wp2
              go_roundw
              case rel => exact ⟨t + 1, by have := Hp.out; go_num, by rw [hN.out], by have := Hp.out; omega, trivial⟩
              case measure => have := Hp.out; simp [intOf]; omega
    · have HT : Hid (lamR n f t = lamP n f) := by show _ = _; rw [← HE.out, show n - 1 = t by omega]
      have hk3 : ¬ (((t + 2 : Nat)) : Int) ≤ (n : Int) := by omega
      rw [HT.out]
      generalize t + 2 = u at *
      go_wp2
      go_ret
      exact ⟨rfl, rfl⟩
set_option maxHeartbeats 3200000 in
set_option maxRecDepth 1000000 in
theorem rbeta_any (n0 : Nat) (w : World) (n1 : 1 ≤ n0) (n2 : (n0 : Int) ≤ 120) :
    Calls Try.prog 49 #[.int .i64 (n0 : Int)] w fun e w' => e = .returned (.int .i64 (btP n0)) ∧ w = w' := by
  have HV := Lib.hid (bt_of n1 (show n0 ≤ 120 by omega)).r
  go_enter Try.func49, Try.ntmps49
  go_wp2
  go_loop [0, 3, 4, 5] (fun N X P _ => ∃ (f p n : Nat) (x : Int), N = .int .i64 (n : Int) ∧ X = .int .i64 x ∧ P = .int .i64 (p : Int) ∧ 1 ≤ n ∧ n ≤ 120 ∧ 2 ≤ p ∧ p ≤ 121 ∧ x.natAbs * n ≤ n0 ∧ Hid (122 - p ≤ f) ∧ Hid (Clear n p) ∧ Hid (btR f p n x = btP n0)) (fun _ _ P _ => 122 - (intOf P).toNat)
  case atStart => exact ⟨200, 2, n0, 1, rfl, rfl, rfl, n1, by omega, by omega, by omega, by show 1 * n0 ≤ n0; omega, by show _ ≤ _; omega, fun e h1 h2 => absurd h1 (by omega), HV.out⟩
  case round =>
    obtain ⟨f, p, n, x, rfl, rfl, rfl, hn1, hn2, hp1, hp2, hxn, HF, HC, HX⟩ := hrel
    have hxb : x.natAbs ≤ 120 := Nat.le_trans (Nat.le_mul_of_pos_right _ hn1) (by omega)
    by_cases hgt : 1 < n
    · have hgti : 1 < (n : Int) := by omega
      have hni : (n : Int) ≤ 120 := by omega
      have hpn := clear_le HC.out hgt
      have hp3 : (p : Int) ≤ 120 := by omega
      have hpi : 2 ≤ (p : Int) := by omega
      obtain ⟨f, rfl⟩ : ∃ f', f = f' + 1 := ⟨f - 1, by have := HF.out; omega⟩
      have HEx := Lib.hid (fun V => rexp_any n p V hn1 hni hpi hp3)
      have hmul := strip_mul (f := n) (d := p) (r := n)
      have hpos := strip_pos (f := n) (d := p) (r := n) hp1 hn1
      have HC2 := Lib.hid (clear_strip hp1 hn1 HC.out)
      have HS : Hid (btR (f + 1) p n x = if (strip n p n).1 = 1 then btR f (p + 1) (n / p ^ (strip n p n).1) (x * -2) else if 2 < (strip n p n).1 then 0 else btR f (p + 1) (n / p ^ (strip n p n).1) x) := by
        show (if n ≤ 1 then x else _) = _
        rw [if_neg (by omega)]
      have hpow1 : 1 ≤ p ^ (strip n p n).1 := Nat.pow_pos (by omega)
      have hq : n / p ^ (strip n p n).1 = (strip n p n).2 := Nat.div_eq_of_eq_mul_left hpow1 hmul.symm
      have hple : p ^ (strip n p n).1 ≤ n := Nat.le_trans (Nat.le_mul_of_pos_left _ hpos) (Nat.le_of_eq hmul)
      rw [HX.out, hq] at HS
      have hmle : (strip n p n).2 ≤ n := (strip_le n p n).1
      have hdv : (n : Int) / ((p ^ (strip n p n).1 : Nat) : Int) = ((strip n p n).2 : Nat) := by rw [← hq]; exact (Int.natCast_ediv _ _).symm
      have hee : (strip n p n).1 ≤ n := (strip_le n p n).2
      have hHP : Hid ((strip n p n).1 ≤ 2 → ∀ V, Calls Try.prog 80 #[.int .i64 (p : Int), .int .i64 ((strip n p n).1 : Nat)] V fun e w' => e = .returned (.int .i64 ((p ^ (strip n p n).1 : Nat) : Int)) ∧ V = w') := fun h V => rpow_any p (strip n p n).1 V hp3 (by omega) (pow_le_of hp1 (by omega))
      have hmul1 : (strip n p n).1 = 1 → (strip n p n).2 * 2 ≤ n := fun h => by
        have : (strip n p n).2 * p = n := by rw [h, Nat.pow_one] at hmul; exact hmul
        exact Nat.le_trans (Nat.mul_le_mul_left _ hp1) (Nat.le_of_eq this)
      clear hmul hq HX HC
      generalize p ^ (strip n p n).1 = Y at *
      generalize (strip n p n).1 = e at *
      generalize (strip n p n).2 = m at *
      have hY0 : ((Y : Int) == 0) = false := by rw [beq_eq_false_iff_ne]; omega
      have hY1 : 1 ≤ (Y : Int) := by omega
      have hY2 : (Y : Int) ≤ 120 := by omega
      have hmi : (m : Int) ≤ 120 := by omega
      have hei : (e : Int) ≤ 120 := by omega
      by_cases h1 : e = 1
      · have HN : Hid (btR f (p + 1) m (x * -2) = btP n0) := by show _ = _; rw [HS.out, if_pos h1]
        have hm2 := hmul1 h1
        have HPw := Lib.hid (hHP.out (by omega))
        have e1 : ((e : Int) == 1) = true := by rw [beq_iff_eq]; omega
        have hx2 : (x * -2).natAbs * m ≤ n0 := by
          rw [Int.natAbs_mul, Nat.mul_assoc]
          refine Nat.le_trans (Nat.mul_le_mul_left _ ?_) hxn
          show 2 * m ≤ n
          omega
        have hHF : Hid (122 - (p + 1) ≤ f) := by have := HF.out; show _ ≤ _; omega
        clear HS h1 hmul1 hHP hxn
        go_wp2_with (first
          | (go_at_call 79; ((with_reducible refine (HEx.out _).mono ?_); rintro e w1 ⟨rfl, rfl⟩))
          | (go_at_call 80; ((with_reducible refine (HPw.out _).mono ?_); rintro e w1 ⟨rfl, rfl⟩))
          | fail)
        go_round
        case rel => exact ⟨f, p + 1, m, x * -2, rfl, rfl, by go_num, hpos, by omega, by omega, by omega, hx2, hHF.out, HC2.out, HN.out⟩
        case measure => simp [intOf]; omega
      · have e1 : ((e : Int) == 1) = false := by rw [beq_eq_false_iff_ne]; omega
        by_cases h2 : 2 < e
        · have HE : Hid ((0 : Int) = btP n0) := by show _ = _; rw [HS.out, if_neg h1, if_pos h2]
          have h2i : 2 < (e : Int) := by omega
          clear HS h1 hmul1 hHP hxn h2
          go_wp2_with (first
            | (go_at_call 79; ((with_reducible refine (HEx.out _).mono ?_); rintro e w1 ⟨rfl, rfl⟩))
            | fail)
          go_ret
          exact ⟨ret_int' HE.out, rfl⟩
        · have HN : Hid (btR f (p + 1) m x = btP n0) := by show _ = _; rw [HS.out, if_neg h1, if_neg h2]
          have HPw := Lib.hid (hHP.out (by omega))
          have h2i : ¬ 2 < (e : Int) := by omega
          have hx2 : x.natAbs * m ≤ n0 := Nat.le_trans (Nat.mul_le_mul_left _ hmle) hxn
          have hHF : Hid (122 - (p + 1) ≤ f) := by have := HF.out; show _ ≤ _; omega
          clear HS h1 hmul1 hHP hxn h2
          go_wp2_with (first
            | (go_at_call 79; ((with_reducible refine (HEx.out _).mono ?_); rintro e w1 ⟨rfl, rfl⟩))
            | (go_at_call 80; ((with_reducible refine (HPw.out _).mono ?_); rintro e w1 ⟨rfl, rfl⟩))
            | fail)
          go_round
          case rel => exact ⟨f, p + 1, m, x, rfl, rfl, by go_num, hpos, by omega, by omega, by omega, hx2, hHF.out, HC2.out, HN.out⟩
          case measure => simp [intOf]; omega
    · have hgti : ¬ 1 < (n : Int) := by omega
      have HE : Hid (x = btP n0) := by
        show _ = _
        rw [← HX.out]
        cases f with
        | zero => rfl
        | succ f => show _ = (if n ≤ 1 then x else _); rw [if_pos (by omega)]
      go_wp2
      go_ret
      exact ⟨ret_int' HE.out, rfl⟩
end Go.Proofs.Ytaofkfphkkfbnaa
