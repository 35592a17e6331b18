/- The contracts of the reference's least, List, find, Same. -/
import Derived.Test.YtgnekmaonnjfkaaIdxL
import Derived.Test.YtgnekmaonnjfkaaRNorL
namespace Go.Proofs.Ytgnekmaonnjfkaa
open Go.RowKit
set_option linter.unusedVariables false

theorem rgcdn_any (a b : Nat) (w : World) (ha : (a : Int) ≤ 120) (hb : (b : Int) ≤ 120) : Calls Try.prog 15 #[.int .i64 (a : Int), .int .i64 (b : Int)] w fun e w' => e = .returned (.int .i64 (Nat.gcd a b : Nat)) ∧ ∃ n, w' = w.drewN n := by
  have := rGcd_any (a : Int) (b : Int) w (by unfold Mid; omega) (by unfold Mid; omega)
  rwa [show Int.gcd (a : Int) (b : Int) = Nat.gcd a b from rfl] at this
theorem pt_true {n u v : Nat} (hu : u < n) (hv : v < n) (hg : Nat.gcd (Nat.gcd u v) n = 1) (h : ∀ s, 2 ≤ s → s < n → Nat.gcd s n = 1 → (u < s * u % n ∨ (s * u % n = u ∧ v ≤ s * v % n))) : ptB n u v = true := by
  refine ptB_all.2 ⟨hg, fun s hs hgs => ?_⟩
  by_cases h2 : 2 ≤ s
  · exact h s h2 hs hgs
  · obtain rfl | rfl : s = 0 ∨ s = 1 := by omega
    · rw [Nat.gcd_zero_left] at hgs
      have e1 : u = 0 := by omega
      have e2 : v = 0 := by omega
      subst e1 e2
      exact .inr ⟨by simp, by omega⟩
    · rw [Nat.one_mul, Nat.one_mul, Nat.mod_eq_of_lt hu, Nat.mod_eq_of_lt hv]; omega
theorem pt_false {n u v s : Nat} (hs : s < n) (hg : Nat.gcd s n = 1) (h : s * u % n < u ∨ (s * u % n = u ∧ s * v % n < v)) : ptB n u v = false := by
  cases hb : ptB n u v with
  | false => rfl
  | true =>
    have := (ptB_all.1 hb).2 s hs hg
    omega
set_option maxHeartbeats 6400000 in
set_option maxRecDepth 1000000 in
theorem rleastb_any (n u v : Nat) (w : World) (n2 : (n : Int) ≤ 120) (hu : u < n) (hv : v < n) (hg : Nat.gcd (Nat.gcd u v) n = 1) :
    Calls Try.prog 38 #[.int .i64 (n : Int), .int .i64 (u : Int), .int .i64 (v : Int)] w fun e w' => e = .returned (.bool (ptB n u v)) ∧ ∃ q, w' = w.drewN q := by
  have HT : Hid ((∀ s, 2 ≤ s → s < n → Nat.gcd s n = 1 → (u < s * u % n ∨ (s * u % n = u ∧ v ≤ s * v % n))) → ptB n u v = true) := fun h => pt_true hu hv hg h
  have HFa : Hid (∀ s, s < n → Nat.gcd s n = 1 → (s * u % n < u ∨ (s * u % n = u ∧ s * v % n < v)) → ptB n u v = false) := fun s h1 h2 h3 => pt_false h1 h2 h3
  have n1i : 1 ≤ (n : Int) := by omega
  have hui : (u : Int) ≤ 120 := by omega
  have hvi : (v : Int) ≤ 120 := by omega
  clear hg
  go_enter Try.func38, Try.ntmps38
  go_wp2
  go_loopw [7, 8] (fun s _ wr => ∃ (k q : Nat), s = .int .i64 k ∧ 2 ≤ k ∧ (k : Int) ≤ 121 ∧ Hid (∀ r, 2 ≤ r → r < k → Nat.gcd r n = 1 → (u < r * u % n ∨ (r * u % n = u ∧ v ≤ r * v % n))) ∧ wr = w.drewN q) (fun s _ _ => n - (intOf s).toNat)
  case atStart => exact ⟨2, 0, rfl, by omega, by omega, fun r h1 h2 => by omega, rfl⟩
  case round =>
    obtain ⟨k, q, rfl, hk2, hk3, HA, rfl⟩ := hrel
    by_cases hkn : k < n
    · have hkni : (k : Int) < (n : Int) := by omega
      obtain ⟨p0, p1⟩ := prod_bd (show (0 : Int) ≤ k by omega) (by omega) (show (0 : Int) ≤ u by omega) hui
      obtain ⟨p2, p3⟩ := prod_bd (show (0 : Int) ≤ k by omega) (by omega) (show (0 : Int) ≤ v by omega) hvi
      have e1 : (k : Int) * (u : Int) % (n : Int) = ((k * u % n : Nat) : Int) := cast_mm k u n
      have e2 : (k : Int) * (v : Int) % (n : Int) = ((k * v % n : Nat) : Int) := cast_mm k v n
      have HG := Lib.hid (fun W => rgcdn_any k n W (by omega) n2)
      by_cases hg : Nat.gcd k n = 1
      · have HFk := Lib.hid (fun h => HFa.out k hkn hg h)
        have HAn : Hid ((u < k * u % n ∨ (k * u % n = u ∧ v ≤ k * v % n)) → ∀ r, 2 ≤ r → r < k + 1 → Nat.gcd r n = 1 → (u < r * u % n ∨ (r * u % n = u ∧ v ≤ r * v % n))) := fun h r h1 h2 h3 => by
          by_cases e : r = k
          · rw [e]; exact h
          · exact HA.out r h1 (by omega) h3
        rw [hg] at HG
        clear hg HA
        generalize k * u % n = x at *
        generalize k * v % n = y at *
        have hx1 : (u : Int) < (x : Int) ∨ (x : Int) < (u : Int) ∨ x = u := by omega
        rcases hx1 with h | h | h
        · have HN := Lib.hid (HAn.out (.inl (by omega)))
          have hne : ((x : Int) == (u : Int)) = false := by rw [beq_eq_false_iff_ne]; omega
          have hd : ¬ (x : Int) < (u : Int) := by omega
          clear HFk HAn
          go_wp2_with (first
            | (go_at_call 15; ((with_reducible refine (HG.out _).mono ?_); rintro e w' ⟨rfl, q1, rfl⟩))
            | fail)
          go_roundw
          case rel => exact ⟨k + 1, _, by go_num, by omega, by omega, HN.out, rfl⟩
          case measure => simp [intOf]; omega
        · have HFl := Lib.hid (HFk.out (.inl (by omega)))
          clear HFk HAn
          go_wp2_with (first
            | (go_at_call 15; ((with_reducible refine (HG.out _).mono ?_); rintro e w' ⟨rfl, q1, rfl⟩))
            | fail)
          go_ret
          exact ⟨by rw [HFl.out]; rfl, _, rfl⟩
        · subst h
          by_cases hy : y < v
          · have HFl := Lib.hid (HFk.out (.inr ⟨rfl, hy⟩))
            have hyi : (y : Int) < (v : Int) := by omega
            clear HFk HAn
            go_wp2_with (first
              | (go_at_call 15; ((with_reducible refine (HG.out _).mono ?_); rintro e w' ⟨rfl, q1, rfl⟩))
              | fail)
            go_ret
            exact ⟨by rw [HFl.out]; rfl, _, rfl⟩
          · have HN := Lib.hid (HAn.out (.inr ⟨rfl, by omega⟩))
            have hyi : ¬ (y : Int) < (v : Int) := by omega
            clear HFk HAn
            go_wp2_with (first
              | (go_at_call 15; ((with_reducible refine (HG.out _).mono ?_); rintro e w' ⟨rfl, q1, rfl⟩))
              | fail)
            go_roundw
            case rel => exact ⟨k + 1, _, by go_num, by omega, by omega, HN.out, rfl⟩
            case measure => simp [intOf]; omega
      · have HAn : Hid (∀ r, 2 ≤ r → r < k + 1 → Nat.gcd r n = 1 → (u < r * u % n ∨ (r * u % n = u ∧ v ≤ r * v % n))) := fun r h1 h2 h3 => by
          by_cases e : r = k
          · rw [e] at h3; exact absurd h3 hg
          · exact HA.out r h1 (by omega) h3
        obtain ⟨z, hz⟩ : ∃ z : Int, z = (Nat.gcd k n : Nat) := ⟨_, rfl⟩
        have hz1 : (z == 1) = false := by rw [beq_eq_false_iff_ne]; omega
        rw [← hz] at HG
        clear hg HA hz
        generalize k * u % n = x at *
        generalize k * v % n = y at *
        go_wp2_with (first
          | (go_at_call 15; ((with_reducible refine (HG.out _).mono ?_); rintro e w' ⟨rfl, q1, rfl⟩))
          | fail)
        go_roundw
        case rel => exact ⟨k + 1, _, by go_num, by omega, by omega, HAn.out, rfl⟩
        case measure => simp [intOf]; omega
    · have HTr := Lib.hid (HT.out (fun s h1 h2 h3 => HA.out s h1 (by omega) h3))
      have hkni : ¬ (k : Int) < (n : Int) := by omega
      go_wp2
      go_ret
      exact ⟨by rw [HTr.out]; rfl, q, rfl⟩
set_option maxHeartbeats 6400000 in
set_option maxRecDepth 1000000 in
theorem rlist_any (n : Int) (w : World) : Calls Try.prog 17 #[.int .i64 n] w fun e w' => ∃ A c, e = .returned (.tuple #[.slice A (ptI n).length c, .int .i64 (lvE n)]) ∧ RdP w' w'.heap.size A c (ptI n) ∧ Below w.heap.size w w' := by
  have HL := Lib.hid (fun W => rerr_any n W)
  cases hb : lvB n with
  | false =>
    rw [errI_no hb] at HL
    rw [ptI_no hb, lvE_no hb]
    clear hb
    go_enter Try.func17, Try.ntmps17
    go_wp2_with (first
      | (go_at_call 34; ((with_reducible refine (HL.out _).mono ?_); rintro e w' ⟨rfl, rfl⟩))
      | fail)
    refine bodyPost_ret (v := .tuple #[.slice none 0 0, .int .i64 2]) ?_ rfl ⟨none, 0, rfl, rdp_nil _ _, Below.refl _ _⟩
    simp [results, Try.results17, go_sem, *]
  | true =>
    rw [errI_yes hb] at HL
    obtain ⟨i1, hj, y0, y1, y2⟩ := info_parts Try.infoPt
    obtain ⟨k, rfl, k1, k2⟩ := lv_nat hb
    rw [ptI_yes hb, lvE_yes hb]
    clear hb
    have k1i : 1 ≤ (k : Int) := by omega
    go_enter Try.func17, Try.ntmps17
    go_wp2_with (first
      | (go_at_call 34; ((with_reducible refine (HL.out _).mono ?_); rintro e w' ⟨rfl, rfl⟩))
      | fail)
    go_loopw [5, 6, 7] (fun V U _ wi => ∃ (A2 : Option Addr) (c2 u : Nat), U = .int .i64 u ∧ V = .slice A2 (ptu k u).length c2 ∧ u ≤ k ∧ Hid (LP w wi (.slice A2 (ptu k u).length c2) (ptu k u))) (fun _ U _ _ => k - (intOf U).toNat)
    case atStart => exact ⟨none, 0, 0, rfl, rfl, Nat.zero_le _, LP.start w⟩
    case round =>
      obtain ⟨A2, c2, u, rfl, rfl, huk, HP⟩ := hrel
      by_cases hu : u < k
      · have hui : (u : Int) < (k : Int) := by omega
        have hpl := ptu_len k u
        have hpl2 : (ptu k u).length ≤ 14400 := Nat.le_trans hpl (Nat.mul_le_mul (show k ≤ 120 by omega) (show u ≤ 120 by omega))
        have HSu := Lib.hid (ptu_succ k u)
        obtain ⟨P, hP⟩ : ∃ P, P = ptu k u := ⟨_, rfl⟩
        rw [← hP] at HP HSu hpl2 ⊢
        clear hP hpl
        obtain ⟨wo, rfl⟩ : ∃ wo : World, wo = wr := ⟨_, rfl⟩
        go_wp2
        go_loopw [5, 7] (fun V J wz => ∃ (A4 : Option Addr) (c4 v : Nat), J = .int .i64 v ∧ V = .slice A4 (P ++ (rwv k u v).map fun v => (u, v)).length c4 ∧ v ≤ k ∧ Hid (LP w wz (.slice A4 (P ++ (rwv k u v).map fun v => (u, v)).length c4) (P ++ (rwv k u v).map fun v => (u, v)))) (fun _ J _ => k - (intOf J).toNat)
        case atStart => exact ⟨A2, c2, 0, rfl, by simp [rwv], Nat.zero_le _, by simpa [rwv] using HP⟩
        case round =>
          clear HP
          obtain ⟨A4, c4, v, rfl, rfl, hvk, HP⟩ := hrel
          by_cases hv : v < k
          · have hvi : (v : Int) < (k : Int) := by omega
            have HG1 := Lib.hid (fun W => rgcdn_any u v W (by omega) (by omega))
            have hgl : ((Nat.gcd u v : Nat) : Int) ≤ 120 := by
              rcases Nat.eq_zero_or_pos u with h | h
              · rw [h, Nat.gcd_zero_left]; omega
              · have := Nat.gcd_le_left v h; omega
            have HG2 := Lib.hid (fun W => rgcdn_any (Nat.gcd u v) k W hgl k2)
            have HRs := Lib.hid (rwv_succ k u v)
            have hrl := rwv_len k u v
            have hsz := HP.out.bel.size
            have hZ1 : (P ++ (rwv k u v).map fun v => (u, v)).length ≤ 14600 := by rw [List.length_append, List.length_map]; omega
            by_cases hg : Nat.gcd (Nat.gcd u v) k = 1
            · have HLs := Lib.hid (fun W => rleastb_any k u v W k2 hu hv hg)
              rw [hg] at HG2
              clear hg
              cases hb : ptB k u v with
              | true =>
                rw [hb] at HLs
                have HZ2 : Hid (P ++ (rwv k u (v + 1)).map (fun v => (u, v)) = (P ++ (rwv k u v).map fun v => (u, v)) ++ [(u, v)]) := by show _ = _; rw [HRs.out, if_pos hb, List.map_append, List.append_assoc]; rfl
                clear hb HRs
                generalize P ++ (rwv k u v).map (fun v => (u, v)) = Z at *
                generalize Nat.gcd u v = g0 at *
                go_upto_region 12 with (first
                  | (go_at_call 15; ((with_reducible refine (HG1.out _).mono ?_); rintro e w' ⟨rfl, q1, rfl⟩))
                  | (go_at_call 15; ((with_reducible refine (HG2.out _).mono ?_); rintro e w' ⟨rfl, q2, rfl⟩))
                  | (go_at_call 38; ((with_reducible refine (HLs.out _).mono ?_); rintro e w' ⟨rfl, q3, rfl⟩))
                  | fail)
                have HP2 : Hid (LP w (wr.drewN (q1 + q2 + q3)) (.slice A4 Z.length c4) Z) := HP.out.drewN _
                have hsz2 : w.heap.size ≤ (wr.drewN (q1 + q2 + q3)).heap.size := hsz
                clear HP
                generalize wr.drewN (q1 + q2 + q3) = W2 at *
                have hown := HP2.out.own
                go_wp2_with (first
                  | (at_builtin; (refine wpList_append_own _ rfl _ _ 35 rfl w.heap.size 24 i1 (.agg #[.int .i64 0, .int .i64 0, .int .i64 0]) 3 24 Try.underlying35 hj y0 y1 y2 rfl (by decide) _ _ _ rfl (hown.alloc _) ⟨W2.heap.size, 0, none⟩ 1 1 [.int .i64 (u : Int), .int .i64 (v : Int), .int .i64 1] rfl rfl (cell_three_new _ _ _ _ _) (fun x hx => by simp at hx; rcases hx with hx | hx | hx <;> (rw [hx]; rfl)) (by unfold maxLen; omega) (by omega) (by simp; omega) ?_); intro v' w3 hown' hgrow3 hnil3; obtain ⟨A5, c5, rfl⟩ := own_len hown'; have HN := Lib.hid (HP2.out.app hown' hgrow3); clear hown' hgrow3 hnil3)
                  | fail)
                go_roundw
                case rel => exact ⟨A5, c5, v + 1, by go_num, by rw [HZ2.out, List.length_append]; rfl, hv, by rw [HZ2.out, List.length_append]; exact HN.out⟩
                case measure => simp [intOf]; omega
              | false =>
                rw [hb] at HLs
                have HZ2 : Hid (P ++ (rwv k u (v + 1)).map (fun v => (u, v)) = P ++ (rwv k u v).map fun v => (u, v)) := by show _ = _; rw [HRs.out, if_neg (by rw [hb]; decide)]
                clear hb HRs
                generalize P ++ (rwv k u v).map (fun v => (u, v)) = Z at *
                generalize Nat.gcd u v = g0 at *
                go_wp2_with (first
                  | (go_at_call 15; ((with_reducible refine (HG1.out _).mono ?_); rintro e w' ⟨rfl, q1, rfl⟩))
                  | (go_at_call 15; ((with_reducible refine (HG2.out _).mono ?_); rintro e w' ⟨rfl, q2, rfl⟩))
                  | (go_at_call 38; ((with_reducible refine (HLs.out _).mono ?_); rintro e w' ⟨rfl, q3, rfl⟩))
                  | fail)
                go_roundw
                case rel => exact ⟨A4, c4, v + 1, by go_num, by rw [HZ2.out], hv, by rw [HZ2.out]; exact HP.out.drewN _⟩
                case measure => simp [intOf]; omega
            · have hb : ¬ ptB k u v = true := fun h => hg (ptB_all.1 h).1
              have HZ2 : Hid (P ++ (rwv k u (v + 1)).map (fun v => (u, v)) = P ++ (rwv k u v).map fun v => (u, v)) := by show _ = _; rw [HRs.out, if_neg hb]
              obtain ⟨z, hz⟩ : ∃ z : Int, z = (Nat.gcd (Nat.gcd u v) k : Nat) := ⟨_, rfl⟩
              have hz1 : (z == 1) = false := by rw [beq_eq_false_iff_ne]; omega
              rw [← hz] at HG2
              clear hb HRs hg hz
              generalize P ++ (rwv k u v).map (fun v => (u, v)) = Z at *
              generalize Nat.gcd u v = g0 at *
              go_wp2_with (first
                | (go_at_call 15; ((with_reducible refine (HG1.out _).mono ?_); rintro e w' ⟨rfl, q1, rfl⟩))
                | (go_at_call 15; ((with_reducible refine (HG2.out _).mono ?_); rintro e w' ⟨rfl, q2, rfl⟩))
                | fail)
              go_roundw
              case rel => exact ⟨A4, c4, v + 1, by go_num, by rw [HZ2.out], hv, by rw [HZ2.out]; exact HP.out.drewN _⟩
              case measure => simp [intOf]; omega
          · obtain rfl : v = k := by omega
            have hv3 : ¬ (v : Int) < (v : Int) := by omega
            have HEn : Hid (P ++ (rwv v u v).map (fun x => (u, x)) = ptu v (u + 1)) := by show _ = _; rw [rwv_row]; exact HSu.out.symm
            rw [HEn.out] at HP ⊢
            go_wp2_with fail
            go_roundw
            case rel => exact ⟨A4, c4, u + 1, by go_num, rfl, hu, HP.out⟩
            case measure => simp [intOf]; omega
      · obtain rfl : u = k := by omega
        have hu3 : ¬ (u : Int) < (u : Int) := by omega
        rw [ptu_pts] at HP ⊢
        go_wp2
        refine bodyPost_ret (v := .tuple #[.slice A2 (pts u).length c2, .int .i64 0]) ?_ rfl ⟨A2, c2, rfl, own_rdp HP.out.own, HP.out.bel⟩
        simp [results, Try.results17, go_sem, *]
end Go.Proofs.Ytgnekmaonnjfkaa
