/- The dimensions of a quadratic character: cusp, eisenstein, modular. -/
import Derived.Test.YtaofkfphkkfbnaaDnE
namespace Go.Proofs.Ytaofkfphkkfbnaa
open Go.RowKit
set_option linter.unusedVariables false
set_option linter.unusedSimpArgs false

theorem ei_bd {n k : Nat} {D : Int} (h : LD n D) : -1 ≤ eiV n k D ∧ eiV n k D ≤ 1000 := by
  have := lamP_le h
  have := exK_bd k D.natAbs
  unfold eiV
  omega
set_option maxHeartbeats 3200000 in
set_option maxRecDepth 1000000 in
theorem chcusp_any (n k : Nat) (D : Int) (b : Nat) (w : World) (h : LD n D) (k1 : 2 ≤ (k : Int)) (k2 : (k : Int) ≤ 24) (hc : w.heap[b]? = some (.cells #[.int .i64 D] 3 (0, 0))) :
    Calls Try.prog 40 #[chV n D b, .int .i64 (k : Int)] w fun e w' => e = .returned (.int .i64 (cpV n k D)) ∧ Below w.heap.size w w' := by
  have n1 := h.n1
  have n2 : (n : Int) ≤ 120 := by have := h.n2; omega
  have d1 := h.d1
  have d2 := h.d2
  have HPs := Lib.hid (fun W => psi_any n W n1 n2)
  have HL := Lib.hid (fun v W => lam_any n D v W h)
  have HX := Lib.hid (fun v W => exc_any n k D.natAbs v W k2 (by omega))
  have HF4 := Lib.hid (fun W => f4_any k W k2)
  have HF3 := Lib.hid (fun W => f3_any k W k2)
  have HS4 := Lib.hid (fun (W : World) (hW : W.heap[b]? = some (.cells #[.int .i64 D] 3 (0, 0))) => sum4_any n D b W n1 n2 d1 d2 hW)
  have HS3 := Lib.hid (fun (W : World) (hW : W.heap[b]? = some (.cells #[.int .i64 D] 3 (0, 0))) => sum3_any n D b W n1 n2 d1 d2 hW)
  have hps := psV_le n1 h.n2
  have hla := lamP_le h
  have hex := exK_bd k D.natAbs
  have h4 := s4_bd n D n
  have h3 := s3_bd n D n
  have hf4 := f4K_bd k
  have hf3 := f3K_bd k
  have HV : Hid (cpV n k D = (2 * ((k : Int) - 1) * (psV n : Int) - 12 * (lamP n D.natAbs : Int) + 24 * exK k D.natAbs + f4K k * s4 n D n + f3K k * s3 n D n).tdiv 24) := rfl
  clear h
  unfold chV at *
  generalize D.natAbs = m at *
  generalize psV n = ps at *
  generalize lamP n m = la at *
  generalize exK k m = ex at *
  generalize s4 n D n = x4 at *
  generalize s3 n D n = x3 at *
  generalize f4K k = a4 at *
  generalize f3K k = a3 at *
  generalize cpV n k D = V at *
  obtain ⟨z1, hz1⟩ : ∃ z, z = 2 * ((k : Int) - 1) * (ps : Int) := ⟨_, rfl⟩
  obtain ⟨z4, hz4⟩ : ∃ z, z = a4 * x4 := ⟨_, rfl⟩
  obtain ⟨z3, hz3⟩ : ∃ z, z = a3 * x3 := ⟨_, rfl⟩
  have b1 : 0 ≤ z1 ∧ z1 ≤ 46000 := by
    rw [hz1]
    constructor
    · exact Int.mul_nonneg (by omega) (by omega)
    · have := Int.mul_le_mul (show 2 * ((k : Int) - 1) ≤ 46 by omega) (show (ps : Int) ≤ 1000 by omega) (by omega) (by omega)
      omega
  have b4 : -10000 ≤ z4 ∧ z4 ≤ 10000 := by rcases hf4 with r | r | r <;> rw [hz4, r] <;> omega
  have b3 : -10000 ≤ z3 ∧ z3 ≤ 10000 := by rcases hf3 with r | r | r <;> rw [hz3, r] <;> omega
  rw [← hz1, ← hz4, ← hz3] at HV
  have e1 : 2 * ((k : Int) - 1) * (ps : Int) = z1 := hz1.symm
  have e4 : a4 * x4 = z4 := hz4.symm
  have e3 : a3 * x3 = z3 := hz3.symm
  have wk : IntKind.i64.wrap ((k : Int) - 1) = (k : Int) - 1 := IntWalk.i64_in _ (by omega)
  have w2k : IntKind.i64.wrap (2 * ((k : Int) - 1)) = 2 * ((k : Int) - 1) := IntWalk.i64_in _ (by omega)
  have wz1 : IntKind.i64.wrap z1 = z1 := IntWalk.i64_in _ (by omega)
  have wla : IntKind.i64.wrap (12 * (la : Int)) = 12 * (la : Int) := IntWalk.i64_in _ (by omega)
  have wzl : IntKind.i64.wrap (z1 - 12 * (la : Int)) = z1 - 12 * (la : Int) := IntWalk.i64_in _ (by omega)
  have wex : IntKind.i64.wrap (24 * ex) = 24 * ex := IntWalk.i64_in _ (by omega)
  obtain ⟨t1, ht1⟩ : ∃ t, t = z1 - 12 * (la : Int) + 24 * ex := ⟨_, rfl⟩
  have et1 : z1 - 12 * (la : Int) + 24 * ex = t1 := ht1.symm
  have wt1 : IntKind.i64.wrap t1 = t1 := IntWalk.i64_in _ (by omega)
  have wz4 : IntKind.i64.wrap z4 = z4 := IntWalk.i64_in _ (by omega)
  have wz3 : IntKind.i64.wrap z3 = z3 := IntWalk.i64_in _ (by omega)
  obtain ⟨t2, ht2⟩ : ∃ t, t = t1 + z4 := ⟨_, rfl⟩
  have et2 : t1 + z4 = t2 := ht2.symm
  have wt2 : IntKind.i64.wrap t2 = t2 := IntWalk.i64_in _ (by omega)
  obtain ⟨t3, ht3⟩ : ∃ t, t = t2 + z3 := ⟨_, rfl⟩
  have et3 : t2 + z3 = t3 := ht3.symm
  have wt3 : IntKind.i64.wrap t3 = t3 := IntWalk.i64_in _ (by omega)
  rw [et1, et2, et3] at HV
  have bt1 : -100000 ≤ t3 := by omega
  have bt2 : t3 ≤ 100000 := by omega
  clear hz1 hz4 hz3 ht1 ht2 ht3 b1 b4 b3 hf4 hf3 h4 h3 hex hla hps
  have T0 : Hid ((w.alloc (.cells #[.int .i64 (n : Int), .int .i64 (m : Nat), .func (.func 69) #[] #[.pointer (some ⟨b, 0, none⟩)]] 51)).heap[w.heap.size]? = some (.cells #[.int .i64 (n : Int), .int .i64 (m : Nat), .func (.func 69) #[] #[.pointer (some ⟨b, 0, none⟩)]] 51 (0, 0))) := heap_alloc_new w _
  have Tb0 : Hid ((w.alloc (.cells #[.int .i64 (n : Int), .int .i64 (m : Nat), .func (.func 69) #[] #[.pointer (some ⟨b, 0, none⟩)]] 51)).heap[b]? = some (.cells #[.int .i64 D] 3 (0, 0))) := block_alloc hc _
  have HB0 : Hid (Below w.heap.size w (w.alloc (.cells #[.int .i64 (n : Int), .int .i64 (m : Nat), .func (.func 69) #[] #[.pointer (some ⟨b, 0, none⟩)]] 51))) := below1 w _
  obtain ⟨⟨c0, c1, c2⟩, _⟩ := three_of_blockD T0.out
  clear hc
  go_enter Try.func40, Try.ntmps40
  go_upto_region 2 with (first
    | (go_at_call 36; ((with_reducible refine (HPs.out _).mono ?_); rintro e v1 ⟨rfl, hb⟩; have HB1 := Lib.hid (bel0 HB0.out hb).drew; have T1 : Hid (v1.drew.heap[w.heap.size]? = some (.cells #[.int .i64 (n : Int), .int .i64 (m : Nat), .func (.func 69) #[] #[.pointer (some ⟨b, 0, none⟩)]] 51 (0, 0))) := block_below T0.out hb.drew; have Tb1 : Hid (v1.drew.heap[b]? = some (.cells #[.int .i64 D] 3 (0, 0))) := block_below Tb0.out hb.drew; clear hb c0 c1 c2))
    | fail)
  go_region_held3 (fun w' => w'.cell? ⟨w.heap.size, 0, none⟩ = some (.int .i64 (n : Int)) ∧ w'.cell? ⟨w.heap.size, 1, none⟩ = some (.int .i64 (m : Nat)) ∧ w'.cell? ⟨w.heap.size, 2, none⟩ = some (.func (.func 69) #[] #[.pointer (some ⟨b, 0, none⟩)]))
    (with_reducible first | exact (three_of_blockD T3.out).1 | exact (three_of_blockD T2.out).1 | exact (three_of_blockD T1.out).1 | fail)
    (first
      | (go_at_call 70; ((with_reducible refine (HL.out _ _).mono ?_); rintro e v2 ⟨rfl, hb⟩; have HB2 := Lib.hid (bel0 HB1.out hb); have T2 := Lib.hid (block_below T1.out hb); have Tb2 := Lib.hid (block_below Tb1.out hb); clear hb))
      | (go_at_call 71; ((with_reducible refine (HX.out _ _).mono ?_); rintro e v3 ⟨rfl, hb⟩; have HB3 := Lib.hid (bel0 HB2.out hb); have T3 := Lib.hid (block_below T2.out hb); have Tb3 := Lib.hid (block_below Tb2.out hb); clear hb))
      | fail)
  go_upto_region 3 with fail
  have HB4 := Lib.hid HB3.out.drew
  have T4 : Hid (v3.drew.heap[w.heap.size]? = some (.cells #[.int .i64 (n : Int), .int .i64 (m : Nat), .func (.func 69) #[] #[.pointer (some ⟨b, 0, none⟩)]] 51 (0, 0))) := T3.out
  have Tb4 : Hid (v3.drew.heap[b]? = some (.cells #[.int .i64 D] 3 (0, 0))) := Tb3.out
  go_region_held3 (fun w' => w'.cell? ⟨w.heap.size, 0, none⟩ = some (.int .i64 (n : Int)) ∧ w'.cell? ⟨w.heap.size, 1, none⟩ = some (.int .i64 (m : Nat)) ∧ w'.cell? ⟨w.heap.size, 2, none⟩ = some (.func (.func 69) #[] #[.pointer (some ⟨b, 0, none⟩)]))
    (with_reducible first | exact (three_of_blockD T5.out).1 | exact (three_of_blockD T4.out).1 | fail)
    (first
      | (go_at_call 72; ((with_reducible refine (HF4.out _).mono ?_); rintro e v5 ⟨rfl, rfl⟩))
      | (go_at_call 73; ((with_reducible refine (HS4.out _ Tb4.out).mono ?_); rintro e v5 ⟨rfl, hb⟩; have HB5 := Lib.hid (bel0 HB4.out hb); have T5 := Lib.hid (block_below T4.out hb); have Tb5 := Lib.hid (block_below Tb4.out hb); clear hb))
      | fail)
  go_upto_region 4 with fail
  have HB6 := Lib.hid HB5.out.drew
  have T6 : Hid (v5.drew.heap[w.heap.size]? = some (.cells #[.int .i64 (n : Int), .int .i64 (m : Nat), .func (.func 69) #[] #[.pointer (some ⟨b, 0, none⟩)]] 51 (0, 0))) := T5.out
  have Tb6 : Hid (v5.drew.heap[b]? = some (.cells #[.int .i64 D] 3 (0, 0))) := Tb5.out
  go_region_held3 (fun w' => w'.cell? ⟨w.heap.size, 0, none⟩ = some (.int .i64 (n : Int)) ∧ w'.cell? ⟨w.heap.size, 1, none⟩ = some (.int .i64 (m : Nat)) ∧ w'.cell? ⟨w.heap.size, 2, none⟩ = some (.func (.func 69) #[] #[.pointer (some ⟨b, 0, none⟩)]))
    (with_reducible first | exact (three_of_blockD T7.out).1 | exact (three_of_blockD T6.out).1 | fail)
    (first
      | (go_at_call 75; ((with_reducible refine (HF3.out _).mono ?_); rintro e v7 ⟨rfl, rfl⟩))
      | (go_at_call 73; ((with_reducible refine (HS3.out _ Tb6.out).mono ?_); rintro e v7 ⟨rfl, hb⟩; have HB7 := Lib.hid (bel0 HB6.out hb); have T7 := Lib.hid (block_below T6.out hb); clear hb))
      | fail)
  go_wp2
  go_ret
  exact ⟨by first | (rw [HV.out]; done) | (rw [HV.out]; rfl), HB7.out⟩
set_option maxHeartbeats 3200000 in
set_option maxRecDepth 1000000 in
theorem cheis_any (n k : Nat) (D : Int) (b : Nat) (w : World) (h : LD n D) (k1 : 2 ≤ (k : Int)) (k2 : (k : Int) ≤ 24) :
    Calls Try.prog 41 #[chV n D b, .int .i64 (k : Int)] w fun e w' => e = .returned (.int .i64 (eiV n k D)) ∧ Below w.heap.size w w' := by
  have HL := Lib.hid (fun v W => lam_any n D v W h)
  have HX := Lib.hid (fun v W => exc_any n k D.natAbs v W k2 (by have := h.d1; have := h.d2; omega))
  have hla := lamP_le h
  have hex := exK_bd k D.natAbs
  have HV : Hid (eiV n k D = (lamP n D.natAbs : Int) - exK k D.natAbs) := rfl
  clear h
  unfold chV at *
  generalize D.natAbs = m at *
  generalize lamP n m = la at *
  generalize exK k m = ex at *
  generalize eiV n k D = V at *
  have wex : IntKind.i64.wrap ((la : Int) - ex) = (la : Int) - ex := IntWalk.i64_in _ (by omega)
  have T1 : Hid ((w.alloc (.cells #[.int .i64 (n : Int), .int .i64 (m : Nat), .func (.func 69) #[] #[.pointer (some ⟨b, 0, none⟩)]] 51)).drew.heap[w.heap.size]? = some (.cells #[.int .i64 (n : Int), .int .i64 (m : Nat), .func (.func 69) #[] #[.pointer (some ⟨b, 0, none⟩)]] 51 (0, 0))) := heap_alloc_new w _
  have HB1 : Hid (Below w.heap.size w (w.alloc (.cells #[.int .i64 (n : Int), .int .i64 (m : Nat), .func (.func 69) #[] #[.pointer (some ⟨b, 0, none⟩)]] 51)).drew) := (below1 w _).drew
  go_enter Try.func41, Try.ntmps41
  go_upto_region 1 with fail
  go_region_held3 (fun w' => w'.cell? ⟨w.heap.size, 0, none⟩ = some (.int .i64 (n : Int)) ∧ w'.cell? ⟨w.heap.size, 1, none⟩ = some (.int .i64 (m : Nat)) ∧ w'.cell? ⟨w.heap.size, 2, none⟩ = some (.func (.func 69) #[] #[.pointer (some ⟨b, 0, none⟩)]))
    (with_reducible first | exact (three_of_blockD T3.out).1 | exact (three_of_blockD T2.out).1 | exact (three_of_blockD T1.out).1 | fail)
    (first
      | (go_at_call 70; ((with_reducible refine (HL.out _ _).mono ?_); rintro e v2 ⟨rfl, hb⟩; have HB2 := Lib.hid (bel0 HB1.out hb); have T2 := Lib.hid (block_below T1.out hb); clear hb))
      | (go_at_call 71; ((with_reducible refine (HX.out _ _).mono ?_); rintro e v3 ⟨rfl, hb⟩; have HB3 := Lib.hid (bel0 HB2.out hb); have T3 := Lib.hid (block_below T2.out hb); clear hb))
      | fail)
  go_wp2
  go_ret
  exact ⟨by first | (rw [HV.out]; done) | (rw [HV.out]; rfl), HB3.out⟩
set_option maxHeartbeats 3200000 in
set_option maxRecDepth 1000000 in
theorem chmod_any (n k : Nat) (D : Int) (b : Nat) (w : World) (h : LD n D) (k1 : 2 ≤ (k : Int)) (k2 : (k : Int) ≤ 24) (hc : w.heap[b]? = some (.cells #[.int .i64 D] 3 (0, 0))) :
    Calls Try.prog 42 #[chV n D b, .int .i64 (k : Int)] w fun e w' => e = .returned (.int .i64 (cpV n k D + eiV n k D)) ∧ Below w.heap.size w w' := by
  have HL := Lib.hid (fun (W : World) (hW : W.heap[b]? = some (.cells #[.int .i64 D] 3 (0, 0))) => chcusp_any n k D b W h k1 k2 hW)
  have HX := Lib.hid (fun W => cheis_any n k D b W h k1 k2)
  have hla := cp_bd (k := k) h (by omega) (by omega)
  have hex := ei_bd (k := k) h
  clear h
  unfold chV at *
  generalize D.natAbs = m at *
  generalize cpV n k D = la at *
  generalize eiV n k D = ex at *
  have wex : IntKind.i64.wrap (la + ex) = la + ex := IntWalk.i64_in _ (by omega)
  have T1 : Hid ((w.alloc (.cells #[.int .i64 (n : Int), .int .i64 (m : Nat), .func (.func 69) #[] #[.pointer (some ⟨b, 0, none⟩)]] 51)).drew.heap[w.heap.size]? = some (.cells #[.int .i64 (n : Int), .int .i64 (m : Nat), .func (.func 69) #[] #[.pointer (some ⟨b, 0, none⟩)]] 51 (0, 0))) := heap_alloc_new w _
  have Tb1 : Hid ((w.alloc (.cells #[.int .i64 (n : Int), .int .i64 (m : Nat), .func (.func 69) #[] #[.pointer (some ⟨b, 0, none⟩)]] 51)).drew.heap[b]? = some (.cells #[.int .i64 D] 3 (0, 0))) := block_alloc hc _
  have HB1 : Hid (Below w.heap.size w (w.alloc (.cells #[.int .i64 (n : Int), .int .i64 (m : Nat), .func (.func 69) #[] #[.pointer (some ⟨b, 0, none⟩)]] 51)).drew) := (below1 w _).drew
  clear hc
  go_enter Try.func42, Try.ntmps42
  go_upto_region 1 with fail
  go_region_held3 (fun w' => w'.cell? ⟨w.heap.size, 0, none⟩ = some (.int .i64 (n : Int)) ∧ w'.cell? ⟨w.heap.size, 1, none⟩ = some (.int .i64 (m : Nat)) ∧ w'.cell? ⟨w.heap.size, 2, none⟩ = some (.func (.func 69) #[] #[.pointer (some ⟨b, 0, none⟩)]))
    (with_reducible first | exact (three_of_blockD T3.out).1 | exact (three_of_blockD T2.out).1 | exact (three_of_blockD T1.out).1 | fail)
    (first
      | (go_at_call 40; ((with_reducible refine (HL.out _ Tb1.out).mono ?_); rintro e v2 ⟨rfl, hb⟩; have HB2 := Lib.hid (bel0 HB1.out hb); have T2 := Lib.hid (block_below T1.out hb); clear hb))
      | (go_at_call 41; ((with_reducible refine (HX.out _).mono ?_); rintro e v3 ⟨rfl, hb⟩; have HB3 := Lib.hid (bel0 HB2.out hb); have T3 := Lib.hid (block_below T2.out hb); clear hb))
      | fail)
  go_wp2
  go_ret
  exact ⟨rfl, HB3.out⟩
end Go.Proofs.Ytaofkfphkkfbnaa
