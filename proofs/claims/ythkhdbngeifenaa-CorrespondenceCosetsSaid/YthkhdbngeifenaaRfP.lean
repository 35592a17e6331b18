/- The contract of the reference's Psi. -/
import Derived.Test.YthkhdbngeifenaaRfD
namespace Go.Proofs.Ythkhdbngeifenaa
open Go.RowKit
set_option linter.unusedVariables false
set_option linter.unusedSimpArgs false

set_option maxHeartbeats 3200000 in
set_option maxRecDepth 1000000 in
theorem rpsi_any (n : Nat) (w : World) (n1 : 1 ≤ n) (n2 : (n : Int) ≤ 120) :
    Calls Try.prog 28 #[.int .i64 (n : Int)] w fun e w' => e = .returned (.int .i64 (psV n : Nat)) ∧ Below w.heap.size w w' := by
  have hrf := rf_of n1 (show n ≤ 120 by omega)
  have HE := Lib.hid hrf.ps
  have HB := Lib.hid hrf.p
  clear hrf
  have H0 : Hid (psR n 0 = n) := rfl
  have HS := Lib.hid (fun t => show psR n (t + 1) = (if (primeB (t + 2) && decide (n % (t + 2) = 0)) = true then psR n t / (t + 2) * (t + 3) else psR n t) from rfl)
  go_enter Try.func28, Try.ntmps28
  go_wp2
  go_loopw [3, 4, 5, 6] (fun X P _ _ wr => ∃ t : Nat, P = .int .i64 ((t + 2 : Nat) : Int) ∧ X = .int .i64 (psR n t : Nat) ∧ t < n ∧ wr = w) (fun _ P _ _ _ => n + 1 - (intOf P).toNat)
  case atStart => exact ⟨0, rfl, by rw [H0.out], by omega, rfl⟩
  case round =>
    obtain ⟨t, rfl, rfl, ht, rfl⟩ := hrel
    by_cases htn : t + 2 ≤ n
    · have hti : (((t + 2 : Nat)) : Int) ≤ (n : Int) := by omega
      have hb := HB.out t ht
      have hb' := HB.out (t + 1) (by omega)
      have hs := HS.out t
      obtain ⟨p, hp⟩ : ∃ p, p = t + 2 := ⟨_, rfl⟩
      have HP2 : Hid (primeB p = prR p (p - 2)) := rfl
      have HR0 : Hid (prR p 0 = true) := rfl
      have HRS := Lib.hid (fun j => show prR p (j + 1) = (prR p j && decide (p % (j + 2) ≠ 0)) from rfl)
      rw [← hp] at hti hs ⊢
      rw [show t + 3 = p + 1 by omega] at hs
      rw [hs] at hb'
      have Hs := Lib.hid hs
      have Hp := Lib.hid hp
      have p2 : 2 ≤ (p : Int) := by omega
      have p3 : (p : Int) ≤ 120 := by omega
      clear hs hp
      generalize psR n t = x at *
      have hxi : (x : Int) ≤ 1000 := by omega
      go_wp2
      go_loopw [5, 6] (fun B Q wi => ∃ j : Nat, Q = .int .i64 ((j + 2 : Nat) : Int) ∧ B = .bool (prR p j) ∧ j + 2 ≤ p ∧ wi = wr) (fun _ Q _ => p - (intOf Q).toNat)
      case atStart => exact ⟨0, rfl, by rw [HR0.out], by have := Hp.out; omega, rfl⟩
      case round =>
        obtain ⟨j, rfl, rfl, hj, rfl⟩ := hrel
        by_cases hjp : j + 2 < p
        · have hji : (((j + 2 : Nat)) : Int) < (p : Int) := by omega
          have hR := HRS.out j
          have hmod : (p : Int) % ((j + 2 : Nat) : Int) = ((p % (j + 2) : Nat) : Int) := (Int.natCast_emod p (j + 2)).symm
          obtain ⟨q, hq⟩ : ∃ q, q = j + 2 := ⟨_, rfl⟩
          rw [← hq] at hji hR hmod hj ⊢
          have HQ := Lib.hid hq
          have hq1 : 2 ≤ (q : Int) := by omega
          have hq0 : ((q : Int) == 0) = false := by rw [beq_eq_false_iff_ne]; omega
          clear hq hjp hj
          cases hB : prR p j with
          | false =>
            rw [hB] at hR
            have hN : Hid (prR p (j + 1) = false) := by show _ = _; rw [hR]; rfl
            clear hR hB hmod
            go_wp2
            go_roundw
            case rel => exact ⟨j + 1, by have := HQ.out; go_num, by first | (rw [hN.out]; done) | (rw [hN.out]; exact congrArg Value.bool (by simp only [bne, hez]; rfl)), by have := HQ.out; omega, trivial⟩
            case measure => have := HQ.out; simp [intOf]; omega
          | true =>
            rw [hB] at hR
            by_cases e : p % q = 0
            · have hN : Hid (prR p (j + 1) = false) := by show _ = _; rw [hR, e]; rfl
              rw [e] at hmod
              have hez : ((p : Int) % (q : Int) == 0) = true := by rw [hmod]; rfl
              clear hR hB hmod e
              go_wp2
              go_roundw
              case rel => exact ⟨j + 1, by have := HQ.out; go_num, by first | (rw [hN.out]; done) | (rw [hN.out]; exact congrArg Value.bool (by simp only [bne, hez]; rfl)), by have := HQ.out; omega, trivial⟩
              case measure => have := HQ.out; simp [intOf]; omega
            · have hN : Hid (prR p (j + 1) = true) := by show _ = _; rw [hR]; simpa using e
              have hez : ((p : Int) % (q : Int) == 0) = false := by rw [hmod, beq_eq_false_iff_ne]; omega
              clear hR hB hmod e
              go_wp2
              go_roundw
              case rel => exact ⟨j + 1, by have := HQ.out; go_num, by first | (rw [hN.out]; done) | (rw [hN.out]; exact congrArg Value.bool (by simp only [bne, hez]; rfl)), by have := HQ.out; omega, trivial⟩
              case measure => have := HQ.out; simp [intOf]; omega
        · have hjp2 : j = p - 2 := by omega
          have hk3 : ¬ (((j + 2 : Nat)) : Int) < (p : Int) := by omega
          subst hjp2
          rw [← HP2.out]
          have HPj := Lib.hid hj
          have HPl : Hid ((p - 2 + 2 : Nat) = p) := by show _ = _; omega
          rw [HPl.out] at hk3 ⊢
          clear hjp hj
          have hmodn : (n : Int) % (p : Int) = ((n % p : Nat) : Int) := (Int.natCast_emod n p).symm
          have hp0 : ((p : Int) == 0) = false := by rw [beq_eq_false_iff_ne]; omega
          cases hPr : primeB p with
          | false =>
            have hN : Hid (psR n (t + 1) = x) := by show _ = _; rw [Hs.out, hPr]; rfl
            clear hPr hmodn hb'
            go_wp2
            go_roundw
            case rel => exact ⟨t + 1, by have := Hp.out; go_num, by rw [hN.out], by have := Hp.out; omega, trivial⟩
            case measure => have := Hp.out; simp [intOf]; omega
          | true =>
            by_cases e : n % p = 0
            · have hN : Hid (psR n (t + 1) = x / p * (p + 1)) := by show _ = _; rw [Hs.out, hPr, e]; rfl
              have hb2 : x / p * (p + 1) ≤ 1000 := by have := HB.out (t + 1) (by have := Hp.out; omega); rw [hN.out] at this; exact this
              rw [e] at hmodn
              have hez : ((n : Int) % (p : Int) == 0) = true := by rw [hmodn]; rfl
              clear hPr hmodn hb' e
              have hdv : (x : Int) / (p : Int) = ((x / p : Nat) : Int) := (Int.natCast_ediv _ _).symm
              have hml : ((x / p : Nat) : Int) * ((p : Int) + 1) = ((x / p * (p + 1) : Nat) : Int) := by simp
              have hd3 : x / p ≤ 1000 := by have := Nat.div_le_self x p; omega
              generalize x / p * (p + 1) = z at *
              generalize x / p = y at *
              have hd4 : (y : Int) ≤ 1000 := by omega
              have hz4 : (z : Int) ≤ 1000 := by omega
              clear hb2 hd3
              go_wp2
              go_roundw
              case rel => exact ⟨t + 1, by have := Hp.out; go_num, by rw [hN.out], by have := Hp.out; omega, trivial⟩
              case measure => have := Hp.out; simp [intOf]; omega
            · have hN : Hid (psR n (t + 1) = x) := by show _ = _; rw [Hs.out, hPr, if_neg (by simpa using e)]
              have hez : ((n : Int) % (p : Int) == 0) = false := by rw [hmodn, beq_eq_false_iff_ne]; omega
              clear hPr hmodn hb' e
              go_wp2
              go_roundw
              case rel => exact ⟨t + 1, by have := Hp.out; go_num, by rw [hN.out], by have := Hp.out; omega, trivial⟩
              case measure => have := Hp.out; simp [intOf]; omega
    · have HT : Hid (psR n t = psV n) := by show _ = _; rw [← HE.out, show n - 1 = t by omega]
      have hk3 : ¬ (((t + 2 : Nat)) : Int) ≤ (n : Int) := by omega
      rw [HT.out]
      generalize t + 2 = u at *
      go_wp2
      go_ret
      exact ⟨rfl, Below.refl _ _⟩
end Go.Proofs.Ythkhdbngeifenaa
