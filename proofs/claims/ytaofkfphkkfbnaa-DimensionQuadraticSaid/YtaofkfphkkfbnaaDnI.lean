/- The reference's Kronecker symbol, Lambda and beta. -/
import Derived.Test.YtaofkfphkkfbnaaDnC
import Derived.Test.YtaofkfphkkfbnaaDnG
namespace Go.Proofs.Ytaofkfphkkfbnaa
open Go.RowKit
set_option linter.unusedVariables false
set_option linter.unusedSimpArgs false

theorem syV_cases (d : Int) (p : Nat) : -1 ≤ syV d p ∧ syV d p ≤ 1 := by
  unfold syV
  split
  · omega
  · split
    · split <;> omega
    · split <;> omega
theorem sy_hit {d : Int} {p t : Nat} (h0 : d % (p : Int) ≠ 0) (h2 : p ≠ 2) (ht : t < p - 1) (h : (((t + 1 : Nat) : Int) * ((t + 1 : Nat) : Int) - d) % (p : Int) = 0) : syV d p = 1 := by
  unfold syV
  rw [if_neg h0, if_neg h2, if_pos]
  exact List.any_eq_true.2 ⟨t, List.mem_range.2 ht, decide_eq_true h⟩
theorem sy_miss {d : Int} {p : Nat} (h0 : d % (p : Int) ≠ 0) (h2 : p ≠ 2) (h : ∀ t, t < p - 1 → (((t + 1 : Nat) : Int) * ((t + 1 : Nat) : Int) - d) % (p : Int) ≠ 0) : syV d p = -1 := by
  unfold syV
  rw [if_neg h0, if_neg h2, if_neg]
  intro he
  obtain ⟨t, ht, e⟩ := List.any_eq_true.1 he
  exact h t (List.mem_range.1 ht) (of_decide_eq_true e)
set_option maxHeartbeats 3200000 in
set_option maxRecDepth 1000000 in
theorem rsy_any (d : Int) (p : Nat) (w : World) (d1 : -120 ≤ d) (d2 : d ≤ 120) (p1 : 2 ≤ p) (p2 : (p : Int) ≤ 120) :
    Calls Try.prog 78 #[.int .i64 d, .int .i64 (p : Int)] w fun e w' => e = .returned (.int .i64 (syV d p)) ∧ w = w' := by
  have hp0 : ((p : Int) == 0) = false := by rw [beq_eq_false_iff_ne]; omega
  have hpi : 2 ≤ (p : Int) := by omega
  have htb : (d.tmod (p : Int)).natAbs ≤ 120 := by rw [Int.natAbs_tmod]; have := Nat.mod_le d.natAbs (p : Int).natAbs; omega
  by_cases h0 : d % (p : Int) = 0
  · have HE : Hid ((0 : Int) = syV d p) := by show _ = _; unfold syV; rw [if_pos h0]
    have e1 : (d % (p : Int) == 0) = true := by rw [beq_iff_eq]; exact h0
    have e2 : (d.tmod (p : Int) == 0) = true := by rw [beq_iff_eq]; exact Int.tmod_eq_zero_of_dvd (Int.dvd_of_emod_eq_zero h0)
    clear h0
    go_enter Try.func78, Try.ntmps78
    go_wp2
    go_ret
    exact ⟨ret_int' HE.out, rfl⟩
  have e1 : (d % (p : Int) == 0) = false := by rw [beq_eq_false_iff_ne]; exact h0
  have e2 : (d.tmod (p : Int) == 0) = false := by rw [beq_eq_false_iff_ne]; intro h; exact h0 (Int.emod_eq_zero_of_dvd (Int.dvd_of_tmod_eq_zero h))
  by_cases hp2 : p = 2
  · subst hp2
    have e2' : (d.tmod 2 == 0) = false := e2
    have e1' : (d % 2 == 0) = false := e1
    clear e1 e2 hp0 hpi htb
    have HM := Lib.hid (fun V => modD_any d 8 V (by omega) (by omega) (by omega) (by omega))
    have hr1 : 0 ≤ d % 8 := by omega
    have hr2 : d % 8 ≤ 7 := by omega
    by_cases h1 : d % 8 = 1
    · have HE : Hid ((1 : Int) = syV d 2) := by show _ = _; unfold syV; rw [if_neg h0, if_pos rfl, if_pos (.inl h1)]
      rw [h1] at HM
      clear h0 h1
      go_enter Try.func78, Try.ntmps78
      go_wp2_with (first
        | (go_at_call 66; ((with_reducible refine (HM.out _).mono ?_); rintro e w1 ⟨rfl, rfl⟩))
        | fail)
      go_ret
      exact ⟨ret_int' HE.out, rfl⟩
    · have f1 : (d % 8 == 1) = false := by rw [beq_eq_false_iff_ne]; exact h1
      by_cases h7 : d % 8 = 7
      · have HE : Hid ((1 : Int) = syV d 2) := by show _ = _; unfold syV; rw [if_neg h0, if_pos rfl, if_pos (.inr h7)]
        rw [h7] at HM
        clear h0 h1 h7 f1
        go_enter Try.func78, Try.ntmps78
        go_wp2_with (first
          | (go_at_call 66; ((with_reducible refine (HM.out _).mono ?_); rintro e w1 ⟨rfl, rfl⟩))
          | fail)
        go_ret
        exact ⟨ret_int' HE.out, rfl⟩
      · have f7 : (d % 8 == 7) = false := by rw [beq_eq_false_iff_ne]; exact h7
        have HE : Hid ((-1 : Int) = syV d 2) := by show _ = _; unfold syV; rw [if_neg h0, if_pos rfl, if_neg (by omega)]
        clear h0 h1 h7
        generalize d % 8 = r at *
        go_enter Try.func78, Try.ntmps78
        go_wp2_with (first
          | (go_at_call 66; ((with_reducible refine (HM.out _).mono ?_); rintro e w1 ⟨rfl, rfl⟩))
          | fail)
        go_ret
        exact ⟨ret_int' HE.out, rfl⟩
  · have f2 : ((p : Int) == 2) = false := by rw [beq_eq_false_iff_ne]; omega
    have HH := Lib.hid (fun (t : Nat) (ht : t < p - 1) (h : (((t + 1 : Nat) : Int) * ((t + 1 : Nat) : Int) - d) % (p : Int) = 0) => sy_hit h0 hp2 ht h)
    have HN := Lib.hid (fun (h : ∀ t, t < p - 1 → (((t + 1 : Nat) : Int) * ((t + 1 : Nat) : Int) - d) % (p : Int) ≠ 0) => sy_miss h0 hp2 h)
    have HM := Lib.hid (fun (a : Int) (V : World) (a1 : -1000001 ≤ a) (a2 : a ≤ 1000001) => modD_any a (p : Int) V a1 a2 (by omega) (by omega))
    clear h0 hp2
    go_enter Try.func78, Try.ntmps78
    go_wp2
    go_loop [6] (fun X => ∃ t : Nat, X = .int .i64 ((t + 1 : Nat) : Int) ∧ t + 1 ≤ p ∧ Hid (∀ j, j < t → (((j + 1 : Nat) : Int) * ((j + 1 : Nat) : Int) - d) % (p : Int) ≠ 0)) (fun X => p - (intOf X).toNat)
    case atStart => exact ⟨0, rfl, by omega, fun j hj => absurd hj (by omega)⟩
    case round =>
      obtain ⟨t, rfl, ht, HJ⟩ := hrel
      have hh := HH.out t
      obtain ⟨x, hx⟩ : ∃ x, x = t + 1 := ⟨_, rfl⟩
      have Hx := Lib.hid hx
      rw [← hx] at hh ht ⊢
      have hx1 : 1 ≤ (x : Int) := by omega
      have hx2 : (x : Int) ≤ 120 := by omega
      have hsq : (x : Int) * (x : Int) = ((x * x : Nat) : Int) := (Int.natCast_mul x x).symm
      have hb : x * x ≤ 14400 := Nat.mul_le_mul (show x ≤ 120 by omega) (show x ≤ 120 by omega)
      rw [hsq] at hh
      by_cases hlt : x < p
      · have hlti : (x : Int) < (p : Int) := by omega
        have HMx := Lib.hid (fun V => HM.out (((x * x : Nat) : Int) - d) V (by omega) (by omega))
        by_cases e : (((x * x : Nat) : Int) - d) % (p : Int) = 0
        · have HE : Hid ((1 : Int) = syV d p) := (hh (by omega) e).symm
          rw [e] at HMx
          clear hh e hx
          generalize x * x = z at *
          go_wp2_with (first
            | (go_at_call 66; ((with_reducible refine (HMx.out _).mono ?_); rintro e w1 ⟨rfl, rfl⟩))
            | fail)
          go_ret
          exact ⟨ret_int' HE.out, rfl⟩
        · have He : Hid ((((t + 1 : Nat) : Int) * ((t + 1 : Nat) : Int) - d) % (p : Int) ≠ 0) := by
            show _ ≠ _
            rw [← hx, hsq]; exact e
          have hne : ((((x * x : Nat) : Int) - d) % (p : Int) == 0) = false := by rw [beq_eq_false_iff_ne]; exact e
          clear hh e hx
          generalize x * x = z at *
          generalize ((z : Int) - d) % (p : Int) = r at *
          go_wp2_with (first
            | (go_at_call 66; ((with_reducible refine (HMx.out _).mono ?_); rintro e w1 ⟨rfl, rfl⟩))
            | fail)
          go_round
          case rel => exact ⟨x, by go_num, by omega, fun j hj => by
            by_cases h : j < t
            · exact HJ.out j h
            · obtain rfl : j = t := by have := Hx.out; omega
              exact He.out⟩
          case measure => have := Hx.out; simp [intOf]; omega
      · have hlti : ¬ (x : Int) < (p : Int) := by omega
        have HE : Hid ((-1 : Int) = syV d p) := (HN.out (fun j hj => HJ.out j (by omega))).symm
        clear hh hx
        go_wp2
        go_ret
        exact ⟨ret_int' HE.out, rfl⟩
/-- The reference's symbol: one step. -/
theorem rkL_one (d : Int) : ∀ f p a, a ≤ 1 → rkL d f p a = 1
  | 0, _, _, _ => rfl
  | f + 1, p, a, h => by unfold rkL; rw [if_pos h]
theorem rkL_hit (d : Int) {f p a : Nat} (h1 : 1 < a) (h : a % p = 0) : rkL d (f + 1) p a = syV d p * rkL d f p (a / p) := by
  show (if a ≤ 1 then 1 else if a % p = 0 then syV d p * rkL d f p (a / p) else rkL d f (p + 1) a) = _
  rw [if_neg (by omega), if_pos h]
theorem rkL_miss (d : Int) {f p a : Nat} (h1 : 1 < a) (h : a % p ≠ 0) : rkL d (f + 1) p a = rkL d f (p + 1) a := by
  show (if a ≤ 1 then 1 else if a % p = 0 then syV d p * rkL d f p (a / p) else rkL d f (p + 1) a) = _
  rw [if_neg (by omega), if_neg h]
theorem tri_mul {x y : Int} (hx : -1 ≤ x ∧ x ≤ 1) (hy : -1 ≤ y ∧ y ≤ 1) : -1 ≤ x * y ∧ x * y ≤ 1 := by
  have : x = -1 ∨ x = 0 ∨ x = 1 := by omega
  rcases this with h | h | h <;> rw [h] <;> omega
theorem clear_le {a p : Nat} (h : Clear a p) (h1 : 1 < a) : p ≤ a := by
  rcases Nat.lt_or_ge a p with h2 | h2
  · exact absurd (Nat.mod_self a) (h a (by omega) h2)
  · exact h2
theorem clear_next {a p : Nat} (h : Clear a p) (h1 : a % p ≠ 0) : Clear a (p + 1) := fun e he hep => by
  rcases Nat.lt_or_ge e p with h2 | h2
  · exact h e he h2
  · obtain rfl : e = p := by omega
    exact h1
theorem clear_div {a p : Nat} (h : Clear a p) (h0 : a % p = 0) (hp : 2 ≤ p) : Clear (a / p) p := fun e he hep => by
  intro h1
  refine h e he hep ?_
  have h2 : e ∣ a / p := Nat.dvd_of_mod_eq_zero h1
  have h3 : a / p ∣ a := Nat.div_dvd_of_dvd (Nat.dvd_of_mod_eq_zero h0)
  exact Nat.mod_eq_zero_of_dvd (Nat.dvd_trans h2 h3)
set_option maxHeartbeats 3200000 in
set_option maxRecDepth 1000000 in
theorem rkron_any (d : Int) (a0 : Nat) (w : World) (d1 : -120 ≤ d) (d2 : d ≤ 120) (a1 : 1 ≤ a0) (a2 : (a0 : Int) ≤ 120) :
    Calls Try.prog 46 #[.int .i64 d, .int .i64 (a0 : Int)] w fun e w' => e = .returned (.int .i64 (rkV d a0)) ∧ w = w' := by
  have HSy := Lib.hid (fun (p : Nat) (V : World) (p1 : 2 ≤ p) (p2 : (p : Int) ≤ 120) => rsy_any d p V d1 d2 p1 p2)
  have HSc := Lib.hid (fun p => syV_cases d p)
  have HV : Hid (rkV d a0 = rkL d 300 2 a0) := rfl
  go_enter Try.func46, Try.ntmps46
  go_wp2
  go_loop [1, 5, 6] (fun A X P => ∃ (f p a : Nat) (x : Int), A = .int .i64 (a : Int) ∧ X = .int .i64 x ∧ P = .int .i64 (p : Int) ∧ 1 ≤ a ∧ a ≤ 120 ∧ 2 ≤ p ∧ p ≤ 121 ∧ (-1 ≤ x ∧ x ≤ 1) ∧ Hid (a + 121 - p ≤ f) ∧ Hid (Clear a p) ∧ Hid (x * rkL d f p a = rkV d a0)) (fun A _ P => (intOf A).toNat + 121 - (intOf P).toNat)
  case atStart => exact ⟨300, 2, a0, 1, rfl, rfl, rfl, a1, by omega, by omega, by omega, by omega, by show _ ≤ _; omega, fun e h1 h2 => absurd h1 (by omega), by show _ = _; rw [Int.one_mul, HV.out]⟩
  case round =>
    obtain ⟨f, p, a, x, rfl, rfl, rfl, ha1, ha2, hp1, hp2, ⟨x1, x2⟩, HF, HC, HX⟩ := hrel
    by_cases hgt : 1 < a
    · have hgti : 1 < (a : Int) := by omega
      have hpa := clear_le HC.out hgt
      have hp3 : (p : Int) ≤ 120 := by omega
      have HSp := Lib.hid (fun V => HSy.out p V hp1 hp3)
      obtain ⟨sc1, sc2⟩ := HSc.out p
      have hpi : 2 ≤ (p : Int) := by omega
      have hp0 : ((p : Int) == 0) = false := by rw [beq_eq_false_iff_ne]; omega
      obtain ⟨s0, hs0⟩ : ∃ s, s = syV d p := ⟨_, rfl⟩
      rw [← hs0] at HSp sc1 sc2
      have HS0 := Lib.hid hs0
      clear hs0
      go_wp2
      go_loop [1, 5] (fun B Y => ∃ (g b : Nat) (y : Int), B = .int .i64 (b : Int) ∧ Y = .int .i64 y ∧ 1 ≤ b ∧ b ≤ a ∧ (-1 ≤ y ∧ y ≤ 1) ∧ Hid (b + 121 - p ≤ g) ∧ Hid (Clear b p) ∧ Hid (y * rkL d g p b = rkV d a0)) (fun B _ => (intOf B).toNat)
      case atStart => exact ⟨f, a, x, rfl, rfl, ha1, Nat.le_refl _, ⟨x1, x2⟩, HF.out, HC.out, HX.out⟩
      case round =>
        obtain ⟨g, b, y, rfl, rfl, hb1, hb2, ⟨y1, y2⟩, HG, HCb, HY⟩ := hrel
        have hbi : (b : Int) ≤ 120 := by omega
        have hmod : (b : Int) % (p : Int) = ((b % p : Nat) : Int) := (Int.natCast_emod b p).symm
        have hdv : (b : Int) / (p : Int) = ((b / p : Nat) : Int) := (Int.natCast_ediv _ _).symm
        by_cases e : b % p = 0
        · have hbg : 1 < b := by
            rcases Nat.lt_or_ge 1 b with h | h
            · exact h
            · obtain rfl : b = 1 := by omega
              rw [Nat.mod_eq_of_lt (by omega)] at e; omega
          rw [e] at hmod
          obtain ⟨g, rfl⟩ : ∃ g', g = g' + 1 := ⟨g - 1, by have := HG.out; have := clear_le HCb.out hbg; omega⟩
          have hq1 : 1 ≤ b / p := Nat.div_pos (clear_le HCb.out hbg) (by omega)
          have hq2 : b / p < b := Nat.div_lt_self hb1 (by omega)
          have HG2 : Hid (b / p + 121 - p ≤ g) := by have := HG.out; have := clear_le HCb.out hbg; show _ ≤ _; omega
          have HC2 := Lib.hid (clear_div HCb.out e hp1)
          have HY2 : Hid (y * s0 * rkL d g p (b / p) = rkV d a0) := by
            show _ = _
            rw [← HY.out, rkL_hit d hbg e, HS0.out, Int.mul_assoc]
          obtain ⟨m1, m2⟩ := tri_mul ⟨y1, y2⟩ ⟨sc1, sc2⟩
          clear HY HCb HG e
          generalize b / p = q at *
          have hqi : (q : Int) ≤ 120 := by omega
          go_wp2_with (first
            | (go_at_call 78; ((with_reducible refine (HSp.out _).mono ?_); rintro e w1 ⟨rfl, rfl⟩))
            | fail)
          go_round
          case rel => exact ⟨g, q, y * s0, rfl, rfl, hq1, by omega, ⟨m1, m2⟩, HG2.out, HC2.out, HY2.out⟩
          case measure => simp [intOf]; omega
        · have hne : (((b : Int) % (p : Int)) == 0) = false := by rw [hmod, beq_eq_false_iff_ne]; omega
          have HCn := Lib.hid (clear_next HCb.out e)
          have HY2 : Hid (∃ g', b + 121 - (p + 1) ≤ g' ∧ y * rkL d g' (p + 1) b = rkV d a0) := by
            by_cases hbg : 1 < b
            · obtain ⟨g', rfl⟩ : ∃ g', g = g' + 1 := ⟨g - 1, by have := HG.out; omega⟩
              exact ⟨g', by have := HG.out; omega, by rw [← HY.out, rkL_miss d hbg e]⟩
            · exact ⟨g + 1, by have := HG.out; omega, by rw [← HY.out, rkL_one d _ _ b (by omega), rkL_one d _ _ b (by omega)]⟩
          clear hmod hdv e HY HCb HG
          obtain ⟨g', hg', hy'⟩ := HY2.out
          have HG3 := Lib.hid hg'
          have HY3 := Lib.hid hy'
          clear hg' hy' HY2
          go_wp2
          go_round
          case rel => exact ⟨g', p + 1, b, y, rfl, rfl, by go_num, hb1, by omega, by omega, by omega, ⟨y1, y2⟩, HG3.out, HCn.out, HY3.out⟩
          case measure => simp [intOf]; omega
    · have hgti : ¬ 1 < (a : Int) := by omega
      have HE : Hid (x = rkV d a0) := by show _ = _; rw [← HX.out, rkL_one d _ _ a (by omega), Int.mul_one]
      go_wp2
      go_ret
      exact ⟨ret_int' HE.out, rfl⟩
end Go.Proofs.Ytaofkfphkkfbnaa
