/- ProjlineCounts answers true for all integers. -/
import Derived.Test.YtgnekmaonnjfkaaAwakeL
import Derived.Test.YtgnekmaonnjfkaaRNorL
import Derived.Test.YtgnekmaonnjfkaaArL
import Derived.Test.YtgnekmaonnjfkaaCntM
namespace Go.Proofs.Ytgnekmaonnjfkaa
open Go.RowKit
set_option linter.unusedVariables false

set_option maxHeartbeats 3200000 in
set_option maxRecDepth 1000000 in
theorem psi_any (n : Nat) (w : World) (n1 : 1 ≤ n) (n2 : (n : Int) ≤ 120) :
    Calls Try.prog 40 #[.int .i64 (n : Int)] w fun e w' => e = .returned (.tuple #[.int .i64 (psiN n : Nat), .int .i64 0]) ∧ Below w.heap.size w w' := by
  have HC := Lib.hid (cnt_of n1 (show n ≤ 120 by omega))
  have HFa := Lib.hid (fun W => factor_any n W n1 (by omega))
  have HP : Hid (psiL ((facs 2 n).take (facs 2 n).length) n = psiN n) := by show _ = _; rw [List.take_length]; rfl
  have HB : Hid (∀ k, k ≤ (facs 2 n).length → psiL ((facs 2 n).take k) n ≤ 1000) := HC.out.bd
  have HM : Hid (∀ (k : Nat) (h : k < (facs 2 n).length), 2 ≤ (facs 2 n)[k].1 ∧ (facs 2 n)[k].1 ≤ 120) := fun k h => HC.out.p2 _ (List.getElem_mem h)
  have hfl := HC.out.fl
  generalize facs 2 n = F at *
  go_enter Try.func40, Try.ntmps40
  go_wp2_with (first
    | (go_at_call 53; ((with_reducible refine (HFa.out _).mono ?_); rintro e w2 ⟨v, rfl, ho, hb⟩; have HSh := Lib.hid (own_shape ho); obtain ⟨la, ll, lc, rfl⟩ := ownsRow_slice ho; have HO := Lib.hid ho; have HB2 := Lib.hid hb; clear ho hb))
    | fail)
  have HRd : Hid (ll = F.length ∧ ∀ k (hk : k < F.length), ∃ g, la = some ⟨g, 0, none⟩ ∧ g < w2.heap.size ∧ w2.cell? ⟨g, k * 2, none⟩ = some (.int .i64 (F[k].1 : Int)) ∧ w2.cell? ⟨g, k * 2 + 1, none⟩ = some (.int .i64 (F[k].2 : Int))) := by
    rcases HSh.out with ⟨h1, h2⟩ | ⟨g, cap, h1, h2, h3, h4, h5⟩
    · subst h1
      have : la = none ∧ ll = 0 ∧ lc = 0 := by simpa using h2
      exact ⟨this.2.1, fun k hk => absurd hk (by simp)⟩
    · have : la = some ⟨g, 0, none⟩ ∧ ll = F.length ∧ lc = cap := by simpa using h1
      exact ⟨this.2.1, fun k hk => ⟨g, this.1, h3, h5 k hk⟩⟩
  obtain ⟨hll, hrd⟩ := HRd.out
  have HR := Lib.hid hrd
  subst hll
  clear HRd hrd HSh HO HFa HC
  go_loopw [6, 8, 20] (fun X _ I wr => ∃ k x : Nat, I = .int .i64 k ∧ X = .int .i64 x ∧ k ≤ F.length ∧ (x : Int) ≤ 1000 ∧ Hid (psiL (F.take k) n = x) ∧ Hid (Below w2.heap.size w2 wr)) (fun _ _ I _ => F.length - (intOf I).toNat)
  case atStart => exact ⟨0, n, rfl, rfl, Nat.zero_le _, by omega, rfl, Below.refl _ _⟩
  case round =>
    obtain ⟨k, x, rfl, rfl, hk, hx, HX, HW⟩ := hrel
    by_cases hkl : k < F.length
    · have hkli : (k : Int) < (F.length : Int) := by omega
      obtain ⟨g, rfl, hg, y1, y2⟩ := HR.out k hkl
      obtain ⟨p1, p2⟩ := HM.out k hkl
      have x1 : wr.cell? ⟨g, k * 2, none⟩ = some (.int .i64 (F[k].1 : Int)) := (HW.out.cell (p := ⟨g, k * 2, none⟩) hg).trans y1
      have x2 : wr.cell? ⟨g, k * 2 + 1, none⟩ = some (.int .i64 (F[k].2 : Int)) := (HW.out.cell (p := ⟨g, k * 2 + 1, none⟩) hg).trans y2
      have hgw : g < wr.heap.size := Nat.lt_of_lt_of_le hg HW.out.size
      have HN : Hid (psiL (F.take (k + 1)) n = x + x / F[k].1) := by
        show _ = _
        rw [List.take_add_one, List.getElem?_eq_getElem hkl, Option.toList_some, psiL_append, HX.out]; rfl
      have hb := HB.out (k + 1) (by omega)
      rw [HN.out] at hb
      have hd : (x : Int) / (F[k].1 : Int) = ((x / F[k].1 : Nat) : Int) := (Int.natCast_ediv _ _).symm
      clear y1 y2 HX
      generalize F[k].1 = p at *
      generalize F[k].2 = q at *
      have hp0 : ((p : Int) == 0) = false := by rw [beq_eq_false_iff_ne]; omega
      have hp1 : 1 ≤ (p : Int) := by omega
      obtain ⟨z, hz⟩ : ∃ z, z = x / p := ⟨_, rfl⟩
      rw [← hz] at hd HN hb
      have hzi : (x : Int) + (z : Int) ≤ 1000 := by omega
      clear hz
      go_wp2
      go_roundw
      case rel => exact ⟨k + 1, x + z, by go_num, by go_num, by omega, by omega, HN.out, HW.out.alloc (by have := HW.out.size; omega) _⟩
      case measure => simp [intOf]; omega
    · obtain rfl : k = F.length := by omega
      have hk3 : ¬ (F.length : Int) < (F.length : Int) := by omega
      have HE : Hid ((x : Int) = (psiN n : Nat)) := by show _ = _; rw [← HP.out, HX.out]
      go_wp2
      refine bodyPost_ret (v := .tuple #[.int .i64 (x : Int), .int .i64 0]) ?_ rfl ⟨by rw [HE.out], HB2.out.trans (HW.out.mono HB2.out.size)⟩
      simp [results, Try.results40, go_sem, *]
set_option maxHeartbeats 3200000 in
set_option maxRecDepth 1000000 in
theorem rpsi_any (n : Nat) (w : World) (n1 : 1 ≤ n) (n2 : (n : Int) ≤ 120) :
    Calls Try.prog 21 #[.int .i64 (n : Int)] w fun e w' => e = .returned (.int .i64 (rps n n : Nat)) ∧ w' = w := by
  have HBd : Hid (∀ p, 1 ≤ p → p ≤ 120 → rps n p ≤ 7260) := fun p h1 h2 => by
    have := rps_bd n p h1
    have h3 : n * (p + 1) ≤ 120 * 121 := Nat.mul_le_mul (by omega) (by omega)
    omega
  have n1i : 1 ≤ (n : Int) := by omega
  go_enter Try.func21, Try.ntmps21
  go_wp2
  go_loopw [3, 4, 5, 6] (fun X P _ _ wr => ∃ x p : Nat, X = .int .i64 x ∧ P = .int .i64 ((p : Int) + 1) ∧ 1 ≤ p ∧ p ≤ n ∧ (x : Int) ≤ 7260 ∧ Hid (rps n p = x) ∧ Hid (wr = w)) (fun _ P _ _ _ => (n + 1 - intOf P).toNat)
  case atStart => exact ⟨n, 1, rfl, rfl, by omega, n1, by omega, rfl, rfl⟩
  case round =>
    obtain ⟨x, p, rfl, rfl, p1, p2, hx, HX, HW⟩ := hrel
    obtain ⟨wo, rfl⟩ : ∃ wo : World, wo = wr := ⟨_, rfl⟩
    by_cases hp : p < n
    · have hpi : (p : Int) + 1 ≤ (n : Int) := by omega
      have HS : Hid (rps n (p + 1) = if (n % (p + 1) == 0 && prQ (p + 1) (p + 1)) = true then x / (p + 1) * (p + 2) else x) := by
        show _ = _
        rw [rps, if_neg (by omega), HX.out]
      have hb := HBd.out (p + 1) (by omega) (by omega)
      obtain ⟨t, ht⟩ : ∃ t, t = p + 1 := ⟨_, rfl⟩
      have hti : (p : Int) + 1 = (t : Int) := by omega
      have t2 : 2 ≤ t := by omega
      have t2i : 2 ≤ (t : Int) := by omega
      have ht120 : (t : Int) ≤ 120 := by omega
      have htn : (t : Int) ≤ (n : Int) := by omega
      have HTp : Hid (t = p + 1) := ht
      rw [show p + 2 = t + 1 by omega, ← ht] at HS
      rw [← ht] at hb
      rw [hti]
      clear HX hti ht hpi
      go_wp2
      go_loopw [5, 6] (fun B Q wz => ∃ (b : Bool) (q : Nat), B = .bool b ∧ Q = .int .i64 q ∧ 2 ≤ q ∧ q ≤ t ∧ Hid (prQ t q = b) ∧ Hid (wz = wo)) (fun _ Q _ => t - (intOf Q).toNat)
      case atStart => exact ⟨true, 2, rfl, rfl, by omega, t2, by show _ = _; rfl, rfl⟩
      case round =>
        obtain ⟨b, q, rfl, rfl, q2, qt, HQ, HWz⟩ := hrel
        by_cases hq : q < t
        · have hqi : (q : Int) < (t : Int) := by omega
          have HN := Lib.hid (prQ_succ t q)
          rw [HQ.out, decide_eq_false (show ¬ q < 2 by omega), Bool.false_or] at HN
          have hq0 : ((q : Int) == 0) = false := by rw [beq_eq_false_iff_ne]; omega
          have hq1 : 1 ≤ (q : Int) := by omega
          have hcm : (t : Int) % (q : Int) = ((t % q : Nat) : Int) := (Int.natCast_emod t q).symm
          cases b with
          | false =>
            rw [Bool.false_and] at HN
            go_wp2
            go_roundw
            case rel => exact ⟨false, q + 1, rfl, by go_num, by omega, by omega, HN.out, HWz.out⟩
            case measure => simp [intOf]; omega
          | true =>
            rw [Bool.true_and] at HN
            obtain ⟨r, hr⟩ : ∃ r, r = t % q := ⟨_, rfl⟩
            rw [← hr] at HN hcm
            clear hr
            by_cases h0 : r = 0
            · subst h0
              have hb1 : ((t : Int) % (q : Int) != 0) = false := by rw [hcm]; rfl
              clear hcm
              go_wp2
              go_roundw
              case rel => exact ⟨false, q + 1, rfl, by go_num, by omega, by omega, HN.out, HWz.out⟩
              case measure => simp [intOf]; omega
            · have hb1 : ((t : Int) % (q : Int) != 0) = true := by rw [hcm, bne_iff_ne]; omega
              have HN2 : Hid (prQ t (q + 1) = true) := by show _ = _; rw [HN.out, bne_iff_ne]; exact h0
              clear h0 hcm
              go_wp2
              go_roundw
              case rel => exact ⟨true, q + 1, rfl, by go_num, by omega, by omega, HN2.out, HWz.out⟩
              case measure => simp [intOf]; omega
        · obtain rfl : q = t := by omega
          have hq3 : ¬ (q : Int) < (q : Int) := by omega
          have hcm : (n : Int) % (q : Int) = ((n % q : Nat) : Int) := (Int.natCast_emod n q).symm
          have hq0 : ((q : Int) == 0) = false := by rw [beq_eq_false_iff_ne]; omega
          have hq1 : 1 ≤ (q : Int) := by omega
          rw [HQ.out] at HS
          clear HQ
          cases b with
          | false =>
            have HS2 : Hid (rps n (p + 1) = x) := by rw [← HTp.out]; show _ = _; rw [HS.out, Bool.and_false]; rfl
            clear HS hb
            have HPP : Hid ((q : Int) + 1 = ((p + 1 : Nat) : Int) + 1) := by show _ = _; have := HTp.out; omega
            go_wp2
            go_roundw
            case rel => exact ⟨x, p + 1, rfl, by rw [HPP.out], by omega, by omega, by omega, HS2.out, HWz.out.trans HW.out⟩
            case measure => simp [intOf]; have := HTp.out; omega
          | true =>
            rw [Bool.and_true] at HS
            have HPP : Hid ((q : Int) + 1 = ((p + 1 : Nat) : Int) + 1) := by show _ = _; have := HTp.out; omega
            obtain ⟨r, hr⟩ : ∃ r, r = n % q := ⟨_, rfl⟩
            rw [← hr] at HS hcm
            clear hr
            by_cases h0 : r = 0
            · subst h0
              have hb1 : ((n : Int) % (q : Int) == 0) = true := by rw [hcm]; rfl
              have HS2 : Hid (rps n q = x / q * (q + 1)) := by show _ = _; rw [HS.out]; rfl
              rw [HS2.out] at hb
              have hd : (x : Int) / (q : Int) = ((x / q : Nat) : Int) := (Int.natCast_ediv _ _).symm
              obtain ⟨y, hy⟩ : ∃ y, y = x / q := ⟨_, rfl⟩
              have hyb : (y : Int) ≤ 7260 := by have := Nat.div_le_self x q; omega
              rw [← hy] at hd hb HS2
              obtain ⟨z, hz⟩ : ∃ z, z = y * (q + 1) := ⟨_, rfl⟩
              have hzi : (y : Int) * ((q : Int) + 1) = (z : Int) := by rw [hz, Int.natCast_mul]; rfl
              rw [← hz] at hb HS2
              have HS3 : Hid (rps n (p + 1) = z) := by rw [← HTp.out]; exact HS2.out
              have hzb : (z : Int) ≤ 7260 := by omega
              clear HS HS2 hy hz hb hcm
              go_wp2
              go_roundw
              case rel => exact ⟨z, p + 1, rfl, by rw [HPP.out], by omega, by omega, hzb, HS3.out, HWz.out.trans HW.out⟩
              case measure => simp [intOf]; have := HTp.out; omega
            · have hb1 : ((n : Int) % (q : Int) == 0) = false := by rw [hcm, beq_eq_false_iff_ne]; omega
              have HS2 : Hid (rps n (p + 1) = x) := by rw [← HTp.out]; show _ = _; rw [HS.out, if_neg (by simpa using h0)]
              clear HS hb h0 hcm
              go_wp2
              go_roundw
              case rel => exact ⟨x, p + 1, rfl, by rw [HPP.out], by omega, by omega, by omega, HS2.out, HWz.out.trans HW.out⟩
              case measure => simp [intOf]; have := HTp.out; omega
    · obtain rfl : p = n := by omega
      have hp3 : ¬ (p : Int) + 1 ≤ (p : Int) := by omega
      go_wp2
      go_ret
      exact ⟨by rw [HX.out]; rfl, HW.out⟩
set_option maxHeartbeats 1600000 in
set_option maxRecDepth 1000000 in
theorem count_no (n : Int) (w : World) (h : lvB n = false) : Calls Try.prog 20 #[.int .i64 n] w fun e w' => e = .returned (.tuple #[.int .i64 0, .int .i64 2]) ∧ Below w.heap.size w w' := by
  have HL := Lib.hid (fun W => isLevel_any n W)
  rw [h] at HL
  clear h
  go_enter Try.func20, Try.ntmps20
  go_wp2_with (first
    | (go_at_call 30; ((with_reducible refine (HL.out _).mono ?_); rintro e w' ⟨rfl, rfl⟩))
    | fail)
  refine bodyPost_ret (v := .tuple #[.int .i64 0, .int .i64 2]) ?_ rfl ⟨rfl, Below.refl _ _⟩
  simp [results, Try.results20, go_sem, *]
set_option maxHeartbeats 1600000 in
set_option maxRecDepth 1000000 in
theorem count_yes (n : Nat) (w : World) (n1 : 1 ≤ n) (n2 : (n : Int) ≤ 120) : Calls Try.prog 20 #[.int .i64 (n : Int)] w fun e w' => e = .returned (.tuple #[.int .i64 (psiN n : Nat), .int .i64 0]) ∧ Below w.heap.size w w' := by
  have HL := Lib.hid (fun W => isLevel_any n W)
  rw [lvB_yes (by omega) n2] at HL
  have HP := Lib.hid (fun W => psi_any n W n1 n2)
  generalize psiN n = p at *
  go_enter Try.func20, Try.ntmps20
  go_wp2_with (first
    | (go_at_call 30; ((with_reducible refine (HL.out _).mono ?_); rintro e w' ⟨rfl, rfl⟩))
    | (go_at_call 40; ((with_reducible refine (HP.out _).mono ?_); rintro e w2 ⟨rfl, hb⟩; have HB := Lib.hid hb; clear hb))
    | fail)
  refine bodyPost_ret (v := .tuple #[.int .i64 (p : Int), .int .i64 0]) ?_ rfl ⟨rfl, HB.out⟩
  simp [results, Try.results20, go_sem, *]
set_option maxHeartbeats 3200000 in
set_option maxRecDepth 1000000 in
theorem counts_walk (n : Int) (w : World) :
    Calls Try.prog 6 #[.int .i64 n] w fun e w' => e = .returned (.bool true) ∧ Below w.heap.size w w' := by
  have HPL := Lib.hid (fun W => plist_any n W)
  cases hb : lvB n with
  | false =>
    have HC := Lib.hid (fun W => count_no n W hb)
    rw [ptI_no hb, lvE_no hb] at HPL
    have hn : n < 1 ∨ (¬ n < 1 ∧ 120 < n) := by
      by_cases h1 : n < 1
      · exact .inl h1
      · refine .inr ⟨h1, ?_⟩
        rcases Int.lt_or_le 120 n with h2 | h2
        · exact h2
        · rw [lvB_yes (by omega) h2] at hb; cases hb
    clear hb
    rcases hn with h1 | ⟨h1, h2⟩
    all_goals
      go_enter Try.func6, Try.ntmps6
      go_wp2_with (first
        | (go_at_call 12; ((with_reducible refine (awake_any _).mono ?_); rintro e w1 ⟨rfl, hb⟩; have HB1 := Lib.hid hb; clear hb))
        | (go_at_call 20; ((with_reducible refine (HC.out _).mono ?_); rintro e w2 ⟨rfl, hb⟩; have HB2 := Lib.hid (bel0 HB1.out hb); clear hb))
        | (go_at_call 16; ((with_reducible refine (HPL.out _).mono ?_); rintro e w3 ⟨A, c, rfl, hr, hb⟩; have HB3 := Lib.hid (bel0 HB2.out hb); clear hb hr))
        | fail)
      go_ret
      exact ⟨rfl, HB3.out⟩
  | true =>
    obtain ⟨k, rfl, k1, k2⟩ := lv_nat hb
    rw [ptI_yes hb, lvE_yes hb] at HPL
    have HC := Lib.hid (fun W => count_yes k W k1 k2)
    have hcf := cnt_of k1 (show k ≤ 120 by omega)
    have HRp := Lib.hid (fun W => rpsi_any k W k1 k2)
    rw [← hcf.ref] at HRp
    have hlen := hcf.len
    have k1i : 1 ≤ (k : Int) := by omega
    clear hb hcf
    generalize psiN k = p at *
    generalize pts k = C at *
    have hli : (C.length : Int) = (p : Int) := by omega
    have HLi : Hid (C.length = p) := hlen
    rw [HLi.out] at HPL
    clear hlen hli
    go_enter Try.func6, Try.ntmps6
    go_wp2_with (first
      | (go_at_call 12; ((with_reducible refine (awake_any _).mono ?_); rintro e w1 ⟨rfl, hb⟩; have HB1 := Lib.hid hb; clear hb))
      | (go_at_call 20; ((with_reducible refine (HC.out _).mono ?_); rintro e w2 ⟨rfl, hb⟩; have HB2 := Lib.hid (bel0 HB1.out hb); clear hb))
      | (go_at_call 16; ((with_reducible refine (HPL.out _).mono ?_); rintro e w3 ⟨A, c, rfl, hr, hb⟩; have HB3 := Lib.hid (bel0 HB2.out hb); clear hb hr))
      | (go_at_call 21; ((with_reducible refine (HRp.out _).mono ?_); rintro e w' ⟨rfl, rfl⟩))
      | fail)
    go_ret
    exact ⟨rfl, HB3.out⟩
end Go.Proofs.Ytgnekmaonnjfkaa
