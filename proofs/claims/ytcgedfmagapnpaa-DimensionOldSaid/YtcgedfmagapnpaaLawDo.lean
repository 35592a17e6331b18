/- DimensionOld: the sum of the new dimensions over the divisors. -/
import Derived.Test.YtcgedfmagapnpaaOldM
import Derived.Test.YtcgedfmagapnpaaLawDa
namespace Go.Proofs.Ytcgedfmagapnpaa
open Go.RowKit
set_option linter.unusedVariables false
set_option linter.unusedSimpArgs false

theorem dvP_all {n t : Nat} : ∀ m ∈ dvP n t, m ∣ n := fun m hm => by
  unfold dvP at hm
  have := (List.mem_filter.1 hm).2
  simp only [Bool.and_eq_true, decide_eq_true_eq] at this
  exact Nat.dvd_of_mod_eq_zero this.2
set_option maxHeartbeats 6400000 in
set_option maxRecDepth 1000000 in
theorem dol_walk (N W D : Int) (w : World) : Calls Try.prog 6 #[.agg #[.int .i64 N, .int .i64 W, .int .i64 D]] w fun e w' => e = .returned (.bool true) ∧ Below w.heap.size w w' := by
  have HA := Lib.hid awake_any
  by_cases h : ckV N W D = 0
  · obtain ⟨⟨n1, n2⟩, ⟨w1, w2⟩, ⟨d1, d2⟩, _⟩ := ckV_ok h
    obtain ⟨n, rfl⟩ : ∃ n : Nat, N = n := ⟨N.toNat, by omega⟩
    obtain ⟨k, rfl⟩ : ∃ k : Nat, W = k := ⟨W.toNat, by omega⟩
    have hl := ckV_ld h
    have H1 := Lib.hid (fun V => cusp_ok n k D V h)
    have HO := Lib.hid (od_of h).2
    have HDiv := Lib.hid (fun (m : Nat) (hm : m ∣ n) (hd : (m : Int) % D = 0) => ck_div h hm hd)
    have HLd := Lib.hid (fun (m : Nat) (hm : m ∣ n) (hd : (m : Int) % D = 0) => hl.div hm hd)
    have HE : Hid (dvP n n = dvN n) := rfl
    have HZ := Lib.hid (dvP_zero n)
    have HY := Lib.hid (fun t (h : n % (t + 1) = 0) => dvP_yes h)
    have HN := Lib.hid (fun t (h : n % (t + 1) ≠ 0) => dvP_no h)
    have hD0 : D ≠ 0 := fun e => by have := hl.f; rw [e] at this; cases this
    have hD1 : (D == 0) = false := by rw [beq_eq_false_iff_ne]; exact hD0
    have b1 := cp_bd (k := k) hl (by omega) (by omega)
    clear h hl
    generalize cpV n k D = a at *
    have T0 : Hid ((w.alloc (.cells #[.int .i64 (n : Int), .int .i64 (k : Int), .int .i64 D] 23)).heap[w.heap.size]? = some (.cells #[.int .i64 (n : Int), .int .i64 (k : Int), .int .i64 D] 23 (0, 0))) := heap_alloc_new w _
    have HB0 : Hid (Below w.heap.size w (w.alloc (.cells #[.int .i64 (n : Int), .int .i64 (k : Int), .int .i64 D] 23))) := below1 w _
    obtain ⟨⟨c0, c1, c2⟩, _⟩ := three_of_blockD T0.out
    go_enter Try.func6, Try.ntmps6
    go_wp2_with (first
      | (go_at_call 11; ((with_reducible refine (HA.out _).mono ?_); rintro e v1 ⟨rfl, hb⟩; have HB1 := Lib.hid (bel0 HB0.out hb); have T1 := Lib.hid (block_below T0.out hb); clear c0 c1 c2; obtain ⟨⟨c0, c1, c2⟩, _⟩ := three_of_blockD T1.out; clear hb))
      | (go_at_call 16; ((with_reducible refine (H1.out _).mono ?_); rintro e v2 ⟨rfl, hb⟩; have HB2 := Lib.hid (bel0 HB1.out hb); have T2 := Lib.hid (block_below T1.out hb); clear c0 c1 c2 hb))
      | fail)
    go_loopw [5, 6, 7, 8] (fun X I _ _ wr => ∃ (t : Nat) (x : Int), I = .int .i64 ((t + 1 : Nat) : Int) ∧ X = .int .i64 x ∧ t ≤ n ∧ 0 ≤ x ∧ x ≤ 40000000000 * (t : Int) ∧ Hid (odF n k D (dvP n t) 0 = x) ∧ Hid (Below v2.heap.size v2 wr)) (fun _ I _ _ _ => n + 1 - (intOf I).toNat)
    case atStart => exact ⟨0, 0, rfl, rfl, Nat.zero_le _, by omega, by omega, by show _ = _; rw [HZ.out]; rfl, Below.refl _ _⟩
    case round =>
      obtain ⟨t, x, rfl, rfl, ht, hx1, hx2, HX, HW⟩ := hrel
      have Tw := Lib.hid (block_below T2.out HW.out)
      obtain ⟨⟨c0, c1, c2⟩, _⟩ := three_of_blockD Tw.out
      by_cases htn : t < n
      · have hti : (((t + 1 : Nat)) : Int) ≤ (n : Int) := by omega
        have hY := HY.out t
        have hN := HN.out t
        have hdv := HDiv.out (t + 1)
        have hld := HLd.out (t + 1)
        obtain ⟨u, hu⟩ : ∃ u, u = t + 1 := ⟨_, rfl⟩
        have HU := Lib.hid hu
        rw [← hu] at hti hY hN hdv hld ⊢
        have hu1 : 1 ≤ (u : Int) := by omega
        have hu2 : (u : Int) ≤ 120 := by omega
        have hu0 : ((u : Int) == 0) = false := by rw [beq_eq_false_iff_ne]; omega
        have hmod : (n : Int) % (u : Int) = ((n % u : Nat) : Int) := (Int.natCast_emod n u).symm
        clear hu
        by_cases e : n % u = 0
        · have hun : u ∣ n := Nat.dvd_of_mod_eq_zero e
          have hz1 : ((n : Int) % (u : Int) != 0) = false := by rw [hmod, e]; rfl
          have HP := Lib.hid (hY e)
          by_cases e2 : (u : Int) % D = 0
          · have hz2 : ((u : Int) % D != 0) = false := by rw [bne_eq_false_iff_eq]; exact e2
            have hck := hdv hun e2
            have hlu := hld hun e2
            have HNw := Lib.hid (fun V => new_ok u k D V hck)
            have hq1 : 1 ≤ n / u := Nat.div_pos (by omega) (by omega)
            have hq2 : ((n / u : Nat) : Int) ≤ 120 := by have := Nat.div_le_self n u; omega
            have HDv := Lib.hid (fun V => rdiv_any (n / u) V hq1 hq2)
            have hlen := (dvN_bd hq1 (by omega)).1
            have hnn := (od_of hck).1
            have hnb := (nwV_bd hlu (show 2 ≤ k by omega) (by omega)).2
            have HN2 : Hid (odF n k D (dvP n u) 0 = x + nwV u k D * ((dvN (n / u)).length : Int)) := by
              show _ = _
              rw [HP.out, odF_append, HX.out]
              show (if (u : Int) % D = 0 then x + nwV u k D * ((dvN (n / u)).length : Int) else x) = _
              rw [if_pos e2]
            have hdiv : (n : Int) / (u : Int) = ((n / u : Nat) : Int) := (Int.natCast_ediv _ _).symm
            clear hY hN hdv hld hmod e e2 hck hlu hun HX
            generalize dvN (n / u) = M at *
            generalize nwV u k D = B at *
            generalize n / u = q at *
            obtain ⟨z, hz⟩ : ∃ z, z = B * (M.length : Int) := ⟨_, rfl⟩
            have hzb : 0 ≤ z ∧ z ≤ 40000000000 := by
              rw [hz]
              constructor
              · exact Int.mul_nonneg hnn (by omega)
              · have := Int.mul_le_mul hnb (show (M.length : Int) ≤ 121 by omega) (by omega) (by omega)
                omega
            obtain ⟨hzb1, hzb2⟩ := hzb
            rw [← hz] at HN2
            have ez : B * (M.length : Int) = z := hz.symm
            have hB0 : ¬ B < 0 := by omega
            clear hz
            go_wp2_with (first
              | (go_at_call 19; ((with_reducible refine (HNw.out _).mono ?_); rintro e v3 ⟨rfl, hb⟩; have HB3 := Lib.hid (bel0 HW.out hb); have T3 := Lib.hid (block_below Tw.out hb); clear c0 c1 c2; obtain ⟨⟨c0, c1, c2⟩, _⟩ := three_of_blockD T3.out; clear hb))
              | (go_at_call 24; ((with_reducible refine (HDv.out _).mono ?_); rintro e v4 ⟨la, lc, rfl, hr⟩; have HB4 := Lib.hid (bel0 HB3.out hr.bel); clear hr))
              | fail)
            go_roundw
            case rel => exact ⟨u, x + z, by go_num, by go_num, by omega, by omega, by have := HU.out; omega, HN2.out, HB4.out⟩
            case measure => have := HU.out; simp [intOf]; omega
          · have hz2 : ((u : Int) % D != 0) = true := by rw [bne_iff_ne]; exact e2
            have HN2 : Hid (odF n k D (dvP n u) 0 = x) := by
              show _ = _
              rw [HP.out, odF_append, HX.out]
              show (if (u : Int) % D = 0 then x + nwV u k D * ((dvN (n / u)).length : Int) else x) = _
              rw [if_neg e2]
            clear hY hN hdv hld hmod e e2 hun HX
            go_wp2
            go_roundw
            case rel => exact ⟨u, x, by go_num, rfl, by omega, hx1, by have := HU.out; omega, HN2.out, HW.out⟩
            case measure => have := HU.out; simp [intOf]; omega
        · have hz1 : ((n : Int) % (u : Int) != 0) = true := by rw [hmod, bne_iff_ne]; omega
          have HN2 : Hid (odF n k D (dvP n u) 0 = x) := by show _ = _; rw [hN e, HX.out]
          clear hY hN hdv hld hmod e HX
          go_wp2
          go_roundw
          case rel => exact ⟨u, x, by go_num, rfl, by omega, hx1, by have := HU.out; omega, HN2.out, HW.out⟩
          case measure => have := HU.out; simp [intOf]; omega
      · obtain rfl : t = n := by omega
        have hk3 : ¬ (((t + 1 : Nat)) : Int) ≤ (t : Int) := by omega
        obtain rfl : x = a := by rw [← HX.out, HE.out]; exact HO.out
        go_wp2
        go_ret
        exact ⟨by first | rfl | simp, (HB2.out).trans (HW.out.mono HB2.out.size)⟩
  · have H1 := Lib.hid (fun V => cusp_bad N W D V h)
    have hk1 : (ckV N W D != 0) = true := by rw [bne_iff_ne]; exact h
    clear h
    generalize ckV N W D = kk at *
    have T0 : Hid ((w.alloc (.cells #[.int .i64 N, .int .i64 W, .int .i64 D] 23)).heap[w.heap.size]? = some (.cells #[.int .i64 N, .int .i64 W, .int .i64 D] 23 (0, 0))) := heap_alloc_new w _
    have HB0 : Hid (Below w.heap.size w (w.alloc (.cells #[.int .i64 N, .int .i64 W, .int .i64 D] 23))) := below1 w _
    obtain ⟨⟨c0, c1, c2⟩, _⟩ := three_of_blockD T0.out
    go_enter Try.func6, Try.ntmps6
    go_wp2_with (first
      | (go_at_call 11; ((with_reducible refine (HA.out _).mono ?_); rintro e v1 ⟨rfl, hb⟩; have HB1 := Lib.hid (bel0 HB0.out hb); have T1 := Lib.hid (block_below T0.out hb); clear c0 c1 c2; obtain ⟨⟨c0, c1, c2⟩, _⟩ := three_of_blockD T1.out; clear hb))
      | (go_at_call 16; ((with_reducible refine (H1.out _).mono ?_); rintro e v2 ⟨rfl, hb⟩; have HB2 := Lib.hid (bel0 HB1.out hb); clear c0 c1 c2 hb))
      | fail)
    go_ret
    exact ⟨rfl, HB2.out⟩
end Go.Proofs.Ytcgedfmagapnpaa
