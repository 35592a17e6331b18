/- The sums over the roots, and the dimensions of a quadratic character. -/
import Derived.Test.YtaofkfphkkfbnaaDnD
namespace Go.Proofs.Ytaofkfphkkfbnaa
open Go.RowKit
set_option linter.unusedVariables false
set_option linter.unusedSimpArgs false

set_option maxHeartbeats 800000 in
theorem poly4_any (a : Nat) (w : World) (a2 : (a : Int) ≤ 120) : Calls Try.prog 74 #[.int .i64 (a : Int)] w fun e w' => e = .returned (.int .i64 ((a * a + 1 : Nat) : Int)) ∧ w = w' := by
  have hsq : (a : Int) * (a : Int) = ((a * a : Nat) : Int) := (Int.natCast_mul a a).symm
  have hb : a * a ≤ 120 * 120 := Nat.mul_le_mul (by omega) (by omega)
  generalize a * a = z at *
  have HE : Hid ((z : Int) + 1 = ((z + 1 : Nat) : Int)) := by show _ = _; omega
  go_enter Try.func74, Try.ntmps74
  go_wp2
  go_ret
  exact ⟨ret_int' HE.out, rfl⟩
set_option maxHeartbeats 3200000 in
set_option maxRecDepth 1000000 in
theorem sum4_any (n : Nat) (D : Int) (b : Nat) (w : World) (n1 : 1 ≤ n) (n2 : (n : Int) ≤ 120) (d1 : -120 ≤ D) (d2 : D ≤ 120) (hc : w.heap[b]? = some (.cells #[.int .i64 D] 3 (0, 0))) :
    Calls Try.prog 73 #[chV n D b, .func (.func 74) #[] #[]] w fun e w' => e = .returned (.int .i64 (s4 n D n)) ∧ Below w.heap.size w w' := by
  have H0 : Hid (s4 n D 0 = 0) := rfl
  have HS := Lib.hid (fun t => show s4 n D (t + 1) = (if rt4 n (t + 1) = true then s4 n D t + 2 * kron D ((t + 1 : Nat) : Int) else s4 n D t) from rfl)
  have HR : Hid (∀ t, rt4 n t = decide ((t * t + 1) % n = 0)) := fun t => rfl
  have HBd := Lib.hid (fun t => s4_bd n D t)
  have HKb := Lib.hid (fun t : Nat => kron_cases D (t : Int))
  have HPo := Lib.hid (fun (a : Nat) (h : (a : Int) ≤ 120) W => poly4_any a W h)
  have HTw := Lib.hid (fun (a : Nat) (h : (a : Int) ≤ 120) (W : World) (hW : W.cell? ⟨b, 0, none⟩ = some (.int .i64 D)) => twice_any D a b W d1 d2 h hW)
  have hbs : b < w.heap.size := lt_of_block hc
  unfold chV
  generalize D.natAbs = m at *
  have T0 : Hid ((w.alloc (.cells #[.int .i64 (n : Int), .int .i64 (m : Nat), .func (.func 69) #[] #[.pointer (some ⟨b, 0, none⟩)]] 51)).heap[w.heap.size]? = some (.cells #[.int .i64 (n : Int), .int .i64 (m : Nat), .func (.func 69) #[] #[.pointer (some ⟨b, 0, none⟩)]] 51 (0, 0))) := heap_alloc_new w _
  have Tb : Hid ((w.alloc (.cells #[.int .i64 (n : Int), .int .i64 (m : Nat), .func (.func 69) #[] #[.pointer (some ⟨b, 0, none⟩)]] 51)).heap[b]? = some (.cells #[.int .i64 D] 3 (0, 0))) := block_alloc hc _
  have HB0 : Hid (Below w.heap.size w (w.alloc (.cells #[.int .i64 (n : Int), .int .i64 (m : Nat), .func (.func 69) #[] #[.pointer (some ⟨b, 0, none⟩)]] 51))) := below1 w _
  clear hc
  go_enter Try.func73, Try.ntmps73
  go_upto_region 3 with fail
  obtain ⟨w1, hw1⟩ : ∃ w1, w1 = w.alloc (.cells #[.int .i64 (n : Int), .int .i64 (m : Nat), .func (.func 69) #[] #[.pointer (some ⟨b, 0, none⟩)]] 51) := ⟨_, rfl⟩
  rw [← hw1] at T0 Tb HB0 ⊢
  clear hw1
  go_loopw [5, 6] (fun X I wr => ∃ t : Nat, I = .int .i64 ((t + 1 : Nat) : Int) ∧ X = .int .i64 (s4 n D t) ∧ t ≤ n ∧ Hid (Below w1.heap.size w1 wr)) (fun _ I _ => n + 1 - (intOf I).toNat)
  case atStart => exact ⟨0, rfl, by rw [H0.out], Nat.zero_le _, Below.refl _ _⟩
  case round =>
    obtain ⟨t, rfl, rfl, ht, HW⟩ := hrel
    have Tw := Lib.hid (block_below T0.out HW.out)
    have Tbw := Lib.hid (block_below Tb.out HW.out)
    obtain ⟨⟨c0, c1, c2⟩, _⟩ := three_of_blockD Tw.out
    by_cases htn : t < n
    · have hti : (((t + 1 : Nat)) : Int) ≤ (n : Int) := by omega
      have hs := HS.out t
      have hr := HR.out (t + 1)
      have hbd := HBd.out t
      have hkb := HKb.out (t + 1)
      have hpo := HPo.out (t + 1) (by omega)
      have htw := HTw.out (t + 1) (by omega)
      generalize s4 n D t = x at *
      obtain ⟨u, hu⟩ : ∃ u, u = t + 1 := ⟨_, rfl⟩
      rw [← hu] at hti hs hr hkb hpo htw ⊢
      have HU := Lib.hid hu
      have hu1 : 1 ≤ (u : Int) := by omega
      have hx1 : -240 ≤ x := by omega
      have hx2 : x ≤ 240 := by omega
      have hub : u * u + 1 ≤ 20000 := by
        have := Nat.mul_le_mul (show u ≤ 120 by omega) (show u ≤ 120 by omega)
        omega
      clear hu hbd
      have HPo2 := Lib.hid hpo
      have HTw2 := Lib.hid htw
      clear hpo htw
      generalize u * u + 1 = z at *
      have hmod : (z : Int) % (n : Int) = ((z % n : Nat) : Int) := (Int.natCast_emod z n).symm
      have htm : Int.tmod (z : Int) (n : Int) = ((z % n : Nat) : Int) := (Int.ofNat_tmod _ _).symm
      have hn0 : ((n : Int) == 0) = false := by rw [beq_eq_false_iff_ne]; omega
      have hn01 : ¬ ((n : Int) = 0) := by omega
      have hn02 : ¬ (n = 0) := by omega
      have hzi : (z : Int) ≤ 20000 := by omega
      have HKc : Hid (∀ W, Below wr.heap.size wr W → W.cell? ⟨w.heap.size, 0, none⟩ = some (.int .i64 (n : Nat)) ∧ W.cell? ⟨w.heap.size, 2, none⟩ = some (.func (.func 69) #[] #[.pointer (some ⟨b, 0, none⟩)])) := fun W hb => ⟨(three_of_blockD (block_below Tw.out hb)).1.1, (three_of_blockD (block_below Tw.out hb)).1.2.2⟩
      have D0 : Hid (Below wr.heap.size wr wr.drew) := Below.drew (Below.refl _ _)
      have cb : wr.drew.cell? ⟨b, 0, none⟩ = some (.int .i64 D) := one_blk (block_below Tbw.out D0.out)
      have c2d : wr.drew.cell? ⟨w.heap.size, 2, none⟩ = some (.func (.func 69) #[] #[.pointer (some ⟨b, 0, none⟩)]) := (HKc.out _ D0.out).2
      by_cases e : z % n = 0
      · have hN : Hid (s4 n D u = x + 2 * kron D (u : Int)) := by show _ = _; rw [hs, hr, decide_eq_true e, if_pos rfl]
        rw [e] at hmod htm
        clear hs hr e
        generalize kron D (u : Int) = K at *
        have hK1 : -1 ≤ K := hkb.1
        have hK2 : K ≤ 1 := hkb.2
        clear hkb
        go_upto_region 5 with fail
        go_region_held3 (fun w' => w'.cell? ⟨w.heap.size, 0, none⟩ = some (.int .i64 (n : Nat)))
          (with_reducible first | exact (HKc.out _ D0.out).1 | fail)
          (first
            | (go_at_call 74; ((with_reducible refine (HPo2.out _).mono ?_); rintro e w3 ⟨rfl, rfl⟩))
            | fail)
        go_wp2_with (first
          | (go_at_call 69; ((with_reducible refine (HTw2.out _ cb).mono ?_); rintro e w3 ⟨rfl, rfl⟩))
          | fail)
        go_roundw
        case rel => exact ⟨u, by go_num, by rw [hN.out], by have := HU.out; omega, HW.out.drew⟩
        case measure => have := HU.out; simp [intOf]; omega
      · have hN : Hid (s4 n D u = x) := by show _ = _; rw [hs, hr, decide_eq_false e, if_neg (by decide)]
        have hne : (((z % n : Nat) : Int) == 0) = false := by rw [beq_eq_false_iff_ne]; omega
        have hwr : IntKind.i64.wrap ((z % n : Nat) : Int) = ((z % n : Nat) : Int) := IntWalk.i64_in _ (by have := Nat.mod_le z n; omega)
        clear hs hr e hkb
        generalize z % n = r at *
        go_upto_region 5 with fail
        go_region_held3 (fun w' => w'.cell? ⟨w.heap.size, 0, none⟩ = some (.int .i64 (n : Nat)))
          (with_reducible first | exact (HKc.out _ D0.out).1 | fail)
          (first
            | (go_at_call 74; ((with_reducible refine (HPo2.out _).mono ?_); rintro e w3 ⟨rfl, rfl⟩))
            | fail)
        go_wp2
        go_roundw
        case rel => exact ⟨u, by go_num, by rw [hN.out], by have := HU.out; omega, HW.out.drew⟩
        case measure => have := HU.out; simp [intOf]; omega
    · obtain rfl : t = n := by omega
      have hk3 : ¬ (((t + 1 : Nat)) : Int) ≤ (t : Int) := by omega
      go_wp2
      go_ret
      exact ⟨rfl, HB0.out.trans (HW.out.mono HB0.out.size)⟩
set_option maxHeartbeats 800000 in
theorem poly3_any (a : Nat) (w : World) (a2 : (a : Int) ≤ 120) : Calls Try.prog 76 #[.int .i64 (a : Int)] w fun e w' => e = .returned (.int .i64 ((a * a + a + 1 : Nat) : Int)) ∧ w = w' := by
  have hsq : (a : Int) * (a : Int) = ((a * a : Nat) : Int) := (Int.natCast_mul a a).symm
  have hb : a * a ≤ 120 * 120 := Nat.mul_le_mul (by omega) (by omega)
  generalize a * a = z at *
  have HE : Hid ((z : Int) + (a : Int) + 1 = ((z + a + 1 : Nat) : Int)) := by show _ = _; omega
  go_enter Try.func76, Try.ntmps76
  go_wp2
  go_ret
  exact ⟨ret_int' HE.out, rfl⟩
set_option maxHeartbeats 3200000 in
set_option maxRecDepth 1000000 in
theorem sum3_any (n : Nat) (D : Int) (b : Nat) (w : World) (n1 : 1 ≤ n) (n2 : (n : Int) ≤ 120) (d1 : -120 ≤ D) (d2 : D ≤ 120) (hc : w.heap[b]? = some (.cells #[.int .i64 D] 3 (0, 0))) :
    Calls Try.prog 73 #[chV n D b, .func (.func 76) #[] #[]] w fun e w' => e = .returned (.int .i64 (s3 n D n)) ∧ Below w.heap.size w w' := by
  have H0 : Hid (s3 n D 0 = 0) := rfl
  have HS := Lib.hid (fun t => show s3 n D (t + 1) = (if rt3 n (t + 1) = true then s3 n D t + 2 * kron D ((t + 1 : Nat) : Int) else s3 n D t) from rfl)
  have HR : Hid (∀ t, rt3 n t = decide ((t * t + t + 1) % n = 0)) := fun t => rfl
  have HBd := Lib.hid (fun t => s3_bd n D t)
  have HKb := Lib.hid (fun t : Nat => kron_cases D (t : Int))
  have HPo := Lib.hid (fun (a : Nat) (h : (a : Int) ≤ 120) W => poly3_any a W h)
  have HTw := Lib.hid (fun (a : Nat) (h : (a : Int) ≤ 120) (W : World) (hW : W.cell? ⟨b, 0, none⟩ = some (.int .i64 D)) => twice_any D a b W d1 d2 h hW)
  have hbs : b < w.heap.size := lt_of_block hc
  unfold chV
  generalize D.natAbs = m at *
  have T0 : Hid ((w.alloc (.cells #[.int .i64 (n : Int), .int .i64 (m : Nat), .func (.func 69) #[] #[.pointer (some ⟨b, 0, none⟩)]] 51)).heap[w.heap.size]? = some (.cells #[.int .i64 (n : Int), .int .i64 (m : Nat), .func (.func 69) #[] #[.pointer (some ⟨b, 0, none⟩)]] 51 (0, 0))) := heap_alloc_new w _
  have Tb : Hid ((w.alloc (.cells #[.int .i64 (n : Int), .int .i64 (m : Nat), .func (.func 69) #[] #[.pointer (some ⟨b, 0, none⟩)]] 51)).heap[b]? = some (.cells #[.int .i64 D] 3 (0, 0))) := block_alloc hc _
  have HB0 : Hid (Below w.heap.size w (w.alloc (.cells #[.int .i64 (n : Int), .int .i64 (m : Nat), .func (.func 69) #[] #[.pointer (some ⟨b, 0, none⟩)]] 51))) := below1 w _
  clear hc
  go_enter Try.func73, Try.ntmps73
  go_upto_region 3 with fail
  obtain ⟨w1, hw1⟩ : ∃ w1, w1 = w.alloc (.cells #[.int .i64 (n : Int), .int .i64 (m : Nat), .func (.func 69) #[] #[.pointer (some ⟨b, 0, none⟩)]] 51) := ⟨_, rfl⟩
  rw [← hw1] at T0 Tb HB0 ⊢
  clear hw1
  go_loopw [5, 6] (fun X I wr => ∃ t : Nat, I = .int .i64 ((t + 1 : Nat) : Int) ∧ X = .int .i64 (s3 n D t) ∧ t ≤ n ∧ Hid (Below w1.heap.size w1 wr)) (fun _ I _ => n + 1 - (intOf I).toNat)
  case atStart => exact ⟨0, rfl, by rw [H0.out], Nat.zero_le _, Below.refl _ _⟩
  case round =>
    obtain ⟨t, rfl, rfl, ht, HW⟩ := hrel
    have Tw := Lib.hid (block_below T0.out HW.out)
    have Tbw := Lib.hid (block_below Tb.out HW.out)
    obtain ⟨⟨c0, c1, c2⟩, _⟩ := three_of_blockD Tw.out
    by_cases htn : t < n
    · have hti : (((t + 1 : Nat)) : Int) ≤ (n : Int) := by omega
      have hs := HS.out t
      have hr := HR.out (t + 1)
      have hbd := HBd.out t
      have hkb := HKb.out (t + 1)
      have hpo := HPo.out (t + 1) (by omega)
      have htw := HTw.out (t + 1) (by omega)
      generalize s3 n D t = x at *
      obtain ⟨u, hu⟩ : ∃ u, u = t + 1 := ⟨_, rfl⟩
      rw [← hu] at hti hs hr hkb hpo htw ⊢
      have HU := Lib.hid hu
      have hu1 : 1 ≤ (u : Int) := by omega
      have hx1 : -240 ≤ x := by omega
      have hx2 : x ≤ 240 := by omega
      have hub : u * u + u + 1 ≤ 20000 := by
        have := Nat.mul_le_mul (show u ≤ 120 by omega) (show u ≤ 120 by omega)
        omega
      clear hu hbd
      have HPo2 := Lib.hid hpo
      have HTw2 := Lib.hid htw
      clear hpo htw
      generalize u * u + u + 1 = z at *
      have hmod : (z : Int) % (n : Int) = ((z % n : Nat) : Int) := (Int.natCast_emod z n).symm
      have htm : Int.tmod (z : Int) (n : Int) = ((z % n : Nat) : Int) := (Int.ofNat_tmod _ _).symm
      have hn0 : ((n : Int) == 0) = false := by rw [beq_eq_false_iff_ne]; omega
      have hn01 : ¬ ((n : Int) = 0) := by omega
      have hn02 : ¬ (n = 0) := by omega
      have hzi : (z : Int) ≤ 20000 := by omega
      have HKc : Hid (∀ W, Below wr.heap.size wr W → W.cell? ⟨w.heap.size, 0, none⟩ = some (.int .i64 (n : Nat)) ∧ W.cell? ⟨w.heap.size, 2, none⟩ = some (.func (.func 69) #[] #[.pointer (some ⟨b, 0, none⟩)])) := fun W hb => ⟨(three_of_blockD (block_below Tw.out hb)).1.1, (three_of_blockD (block_below Tw.out hb)).1.2.2⟩
      have D0 : Hid (Below wr.heap.size wr wr.drew) := Below.drew (Below.refl _ _)
      have cb : wr.drew.cell? ⟨b, 0, none⟩ = some (.int .i64 D) := one_blk (block_below Tbw.out D0.out)
      have c2d : wr.drew.cell? ⟨w.heap.size, 2, none⟩ = some (.func (.func 69) #[] #[.pointer (some ⟨b, 0, none⟩)]) := (HKc.out _ D0.out).2
      by_cases e : z % n = 0
      · have hN : Hid (s3 n D u = x + 2 * kron D (u : Int)) := by show _ = _; rw [hs, hr, decide_eq_true e, if_pos rfl]
        rw [e] at hmod htm
        clear hs hr e
        generalize kron D (u : Int) = K at *
        have hK1 : -1 ≤ K := hkb.1
        have hK2 : K ≤ 1 := hkb.2
        clear hkb
        go_upto_region 5 with fail
        go_region_held3 (fun w' => w'.cell? ⟨w.heap.size, 0, none⟩ = some (.int .i64 (n : Nat)))
          (with_reducible first | exact (HKc.out _ D0.out).1 | fail)
          (first
            | (go_at_call 76; ((with_reducible refine (HPo2.out _).mono ?_); rintro e w3 ⟨rfl, rfl⟩))
            | fail)
        go_wp2_with (first
          | (go_at_call 69; ((with_reducible refine (HTw2.out _ cb).mono ?_); rintro e w3 ⟨rfl, rfl⟩))
          | fail)
        go_roundw
        case rel => exact ⟨u, by go_num, by rw [hN.out], by have := HU.out; omega, HW.out.drew⟩
        case measure => have := HU.out; simp [intOf]; omega
      · have hN : Hid (s3 n D u = x) := by show _ = _; rw [hs, hr, decide_eq_false e, if_neg (by decide)]
        have hne : (((z % n : Nat) : Int) == 0) = false := by rw [beq_eq_false_iff_ne]; omega
        have hwr : IntKind.i64.wrap ((z % n : Nat) : Int) = ((z % n : Nat) : Int) := IntWalk.i64_in _ (by have := Nat.mod_le z n; omega)
        clear hs hr e hkb
        generalize z % n = r at *
        go_upto_region 5 with fail
        go_region_held3 (fun w' => w'.cell? ⟨w.heap.size, 0, none⟩ = some (.int .i64 (n : Nat)))
          (with_reducible first | exact (HKc.out _ D0.out).1 | fail)
          (first
            | (go_at_call 76; ((with_reducible refine (HPo2.out _).mono ?_); rintro e w3 ⟨rfl, rfl⟩))
            | fail)
        go_wp2
        go_roundw
        case rel => exact ⟨u, by go_num, by rw [hN.out], by have := HU.out; omega, HW.out.drew⟩
        case measure => have := HU.out; simp [intOf]; omega
    · obtain rfl : t = n := by omega
      have hk3 : ¬ (((t + 1 : Nat)) : Int) ≤ (t : Int) := by omega
      go_wp2
      go_ret
      exact ⟨rfl, HB0.out.trans (HW.out.mono HB0.out.size)⟩
end Go.Proofs.Ytaofkfphkkfbnaa
