/- The reference's Eisenstein and New. -/
import Derived.Test.YtaofkfphkkfbnaaDnK
import Derived.Test.YtaofkfphkkfbnaaDnH
namespace Go.Proofs.Ytaofkfphkkfbnaa
open Go.RowKit
set_option linter.unusedVariables false
set_option linter.unusedSimpArgs false

/-- What a list that lies in an own row reads as. -/
theorem dv_cell {w w' : World} {A : Option Addr} {c : Nat} {L : List Nat} (h : DV w w' (.slice A L.length c) L) (k : Nat) (hk : k < L.length) : ∃ g, A = some ⟨g, 0, none⟩ ∧ g < w'.heap.size ∧ w'.cell? ⟨g, k, none⟩ = some (.int .i64 (L[k] : Nat)) := by
  obtain ⟨g, rfl, hg⟩ := own_some h.own (by omega)
  have h2 := (h.own.lt g rfl).2
  have hc0 := h.own.cells (g := g) rfl k (.int .i64 (L[k] : Nat)) (by simp [zs, iz, hk])
  rw [addr_add] at hc0
  exact ⟨g, rfl, h2, hc0⟩
set_option maxHeartbeats 3200000 in
set_option maxRecDepth 1000000 in
theorem reis_any (n k : Nat) (D : Int) (w : World) (h : LD n D) (k1 : 2 ≤ (k : Int)) (k2 : (k : Int) ≤ 24) :
    Calls Try.prog 21 #[.agg #[.int .i64 (n : Int), .int .i64 (k : Int), .int .i64 D]] w fun e w' => e = .returned (.int .i64 (eiV n k D)) ∧ Below w.heap.size w w' := by
  have T0 : Hid ((w.alloc (.cells #[.int .i64 (n : Int), .int .i64 (k : Int), .int .i64 D] 23)).heap[w.heap.size]? = some (.cells #[.int .i64 (n : Int), .int .i64 (k : Int), .int .i64 D] 23 (0, 0))) := heap_alloc_new w _
  have HB0 : Hid (Below w.heap.size w (w.alloc (.cells #[.int .i64 (n : Int), .int .i64 (k : Int), .int .i64 D] 23))) := below1 w _
  obtain ⟨⟨c0, c1, c2⟩, _⟩ := three_of_blockD T0.out
  have d1 := h.d1
  have d2 := h.d2
  have hla := lamP_le h
  have HL := Lib.hid (fun V => rlam_ld h V)
  by_cases hk : k = 2
  · subst hk
    by_cases hd : D = 1
    · subst hd
      have HV : Hid ((lamP n 1 : Int) - 1 = eiV n 2 1) := rfl
      rw [show Int.natAbs 1 = 1 from rfl] at HL hla
      rw [show ((1 : Nat) : Int) = 1 from rfl] at HL
      clear h
      generalize lamP n 1 = la at *
      go_enter Try.func21, Try.ntmps21
      go_wp2_with (first
        | (go_at_call 48; ((with_reducible refine (HL.out _).mono ?_); rintro e v2 ⟨rfl, rfl⟩))
        | fail)
      go_ret
      exact ⟨ret_int' HV.out, HB0.out⟩
    · have hmax : max D (-D) = ((D.natAbs : Nat) : Int) := by omega
      have e2 : (D == 1) = false := by rw [beq_eq_false_iff_ne]; exact hd
      have HV : Hid ((lamP n D.natAbs : Int) = eiV n 2 D) := by
        show _ = _
        unfold eiV exK
        have hf := h.f
        rw [if_neg (fun e => by
          have e3 : D = -1 := by omega
          rw [e3] at hf; exact absurd hf (by decide))]
        omega
      clear h hd
      generalize lamP n D.natAbs = la at *
      generalize D.natAbs = m at *
      go_enter Try.func21, Try.ntmps21
      go_wp2_with (first
        | (go_at_call 48; ((with_reducible refine (HL.out _).mono ?_); rintro e v2 ⟨rfl, rfl⟩))
        | fail)
      go_ret
      exact ⟨ret_int' HV.out, HB0.out⟩
  · have hmax : max D (-D) = ((D.natAbs : Nat) : Int) := by omega
    have e1 : ((k : Int) == 2) = false := by rw [beq_eq_false_iff_ne]; omega
    have HV : Hid ((lamP n D.natAbs : Int) = eiV n k D) := by
      show _ = _
      unfold eiV exK
      rw [if_neg (by omega)]
      omega
    clear h hk
    generalize lamP n D.natAbs = la at *
    generalize D.natAbs = m at *
    go_enter Try.func21, Try.ntmps21
    go_wp2_with (first
      | (go_at_call 48; ((with_reducible refine (HL.out _).mono ?_); rintro e v2 ⟨rfl, rfl⟩))
      | fail)
    go_ret
    exact ⟨ret_int' HV.out, HB0.out⟩
set_option maxHeartbeats 6400000 in
set_option maxRecDepth 1000000 in
theorem rnew_any (n k : Nat) (D : Int) (w : World) (hl : LD n D) (k1 : 2 ≤ (k : Int)) (k2 : (k : Int) ≤ 24) : Calls Try.prog 22 #[.agg #[.int .i64 (n : Int), .int .i64 (k : Int), .int .i64 D]] w fun e w' => e = .returned (.int .i64 (nwV n k D)) ∧ Below w.heap.size w w' := by
  have T0 : Hid ((w.alloc (.cells #[.int .i64 (n : Int), .int .i64 (k : Int), .int .i64 D] 23)).heap[w.heap.size]? = some (.cells #[.int .i64 (n : Int), .int .i64 (k : Int), .int .i64 D] 23 (0, 0))) := heap_alloc_new w _
  have HB0 : Hid (Below w.heap.size w (w.alloc (.cells #[.int .i64 (n : Int), .int .i64 (k : Int), .int .i64 D] 23))) := below1 w _
  obtain ⟨⟨c0, c1, c2⟩, _⟩ := three_of_blockD T0.out
  have d1 := hl.d1
  have d2 := hl.d2
  have n1 := hl.n1
  have n2 : (n : Int) ≤ 120 := by have := hl.n2; omega
  have HDv := Lib.hid (fun V => rdiv_any n V n1 n2)
  have hDl := (dvN_bd n1 (by omega)).1
  have HMem := Lib.hid (dvN_bd n1 (by omega)).2
  have HP : Hid (nwF n k D ((dvN n).take (dvN n).length) 0 = nwV n k D) := by show _ = _; rw [List.take_length]; rfl
  have HLD := Lib.hid (fun (d : Nat) (hd : d ∣ n) (hm : (d : Int) % D = 0) => hl.div hd hm)
  have HTb := Lib.hid (fun (d : Nat) (hd : d ∣ n) (hm : (d : Int) % D = 0) => term_bd (k := k) hl hd hm (by omega) (by omega))
  have hD0 : D ≠ 0 := fun e => by have := hl.f; rw [e] at this; cases this
  have hD1 : (D == 0) = false := by rw [beq_eq_false_iff_ne]; exact hD0
  have HBt := Lib.hid (fun (m : Nat) (V : World) (m1 : 1 ≤ m) (m2 : (m : Int) ≤ 120) => rbeta_any m V m1 m2)
  clear hl
  generalize dvN n = L at *
  go_enter Try.func22, Try.ntmps22
  go_upto_region 4 with (first
    | (go_at_call 24; ((with_reducible refine (HDv.out _).mono ?_); rintro e w2 ⟨la, lc, rfl, hr⟩; have HR := Lib.hid hr; have HB2 := Lib.hid (bel0 HB0.out hr.bel); have T2 := Lib.hid (block_below T0.out hr.bel); clear hr c0 c1 c2))
    | fail)
  clear HDv
  go_loopw [3, 5] (fun X I wr => ∃ (j : Nat) (x : Int), I = .int .i64 j ∧ X = .int .i64 x ∧ j ≤ L.length ∧ -1000000 * (j : Int) ≤ x ∧ x ≤ 1000000 * (j : Int) ∧ Hid (nwF n k D (L.take j) 0 = x) ∧ Hid (Below w2.heap.size w2 wr)) (fun _ I _ => L.length - (intOf I).toNat)
  case atStart => exact ⟨0, 0, rfl, rfl, Nat.zero_le _, by omega, by omega, rfl, Below.refl _ _⟩
  case round =>
    obtain ⟨j, x, rfl, rfl, hj, hx1, hx2, HX, HW⟩ := hrel
    by_cases hjl : j < L.length
    · have hjli : (j : Int) < (L.length : Int) := by omega
      obtain ⟨g, hla, hg, y1⟩ := dv_cell HR.out j hjl
      subst hla
      obtain ⟨m1, m2, m3⟩ := HMem.out L[j] (List.getElem_mem _)
      have x1 : wr.cell? ⟨g, j, none⟩ = some (.int .i64 (L[j] : Nat)) := (HW.out.cell (p := ⟨g, j, none⟩) hg).trans y1
      have hgw : g < wr.heap.size := Nat.lt_of_lt_of_le hg HW.out.size
      have HN : Hid (nwF n k D (L.take (j + 1)) 0 = if (L[j] : Int) % D = 0 then x + btP (n / L[j]) * cpV L[j] k D else x) := by
        show _ = _
        rw [List.take_add_one, List.getElem?_eq_getElem hjl, Option.toList_some, nwF_append, HX.out]; rfl
      have hld := HLD.out L[j] m2
      have htb := HTb.out L[j] m2
      have hq1 : 1 ≤ n / L[j] := Nat.div_pos (Nat.le_of_dvd (by omega) m2) m1
      have hq2 : n / L[j] ≤ 120 := Nat.le_trans (Nat.div_le_self _ _) (by omega)
      clear y1 HX m2
      generalize L[j] = d at *
      have hd : (n : Int) / (d : Int) = ((n / d : Nat) : Int) := (Int.natCast_ediv _ _).symm
      have htd : Int.tdiv (n : Int) (d : Int) = ((n / d : Nat) : Int) := (Int.ofNat_tdiv _ _).symm
      have hdi1 : 1 ≤ (d : Int) := by omega
      have hdi2 : (d : Int) ≤ 120 := by omega
      have hd0 : ((d : Int) == 0) = false := by rw [beq_eq_false_iff_ne]; omega
      have hd01 : ¬ ((d : Int) = 0) := by omega
      have hd02 : ¬ (d = 0) := by omega
      have htm : Int.tmod (d : Int) D = (d : Int) % D := Int.tmod_eq_emod_of_nonneg (by omega)
      have hmb : ((d : Int) % D).natAbs ≤ 120 := by rw [← htm, Int.natAbs_tmod]; have := Nat.mod_le (d : Int).natAbs D.natAbs; omega
      have hwm : IntKind.i64.wrap ((d : Int) % D) = (d : Int) % D := IntWalk.i64_in _ (by omega)
      have Tw := Lib.hid (block_below T2.out HW.out)
      obtain ⟨⟨c0, c1, c2⟩, _⟩ := three_of_blockD Tw.out
      have HKc : Hid (∀ W, Below wr.heap.size wr W → (W.cell? ⟨w.heap.size, 0, none⟩ = some (.int .i64 (n : Int)) ∧ W.cell? ⟨w.heap.size, 1, none⟩ = some (.int .i64 (k : Int)) ∧ W.cell? ⟨w.heap.size, 2, none⟩ = some (.int .i64 D)) ∧ W.cell? ⟨g, j, none⟩ = some (.int .i64 (d : Nat))) := fun W hb => ⟨(three_of_blockD (block_below Tw.out hb)).1, (hb.cell (p := ⟨g, j, none⟩) hgw).trans x1⟩
      have D0 : Hid (Below wr.heap.size wr wr.drew) := Below.drew (Below.refl _ _)
      have D00 : Hid (Below wr.heap.size wr wr.drew.drew) := D0.out.drew
      obtain ⟨c0d, c1d, c2d⟩ := (HKc.out _ D0.out).1
      have x1d := (HKc.out _ D0.out).2
      by_cases hm : (d : Int) % D = 0
      · have hN : Hid (nwF n k D (L.take (j + 1)) 0 = x + btP (n / d) * cpV d k D) := by show _ = _; rw [HN.out, if_pos hm]
        have htb2 := htb hm
        have HBq := Lib.hid (fun V => HBt.out (n / d) V hq1 (by omega))
        have HCd := Lib.hid (fun (V : World) => rcusp_any d k D V (hld hm) k1 k2)
        have hm2 : ((d : Int) % D == 0) = true := by rw [beq_iff_eq]; exact hm
        clear HN htb hld hmb
        generalize btP (n / d) = B at *
        generalize cpV d k D = C at *
        generalize n / d = q at *
        obtain ⟨z, hz⟩ : ∃ z, z = B * C := ⟨_, rfl⟩
        rw [← hz] at htb2 hN
        have ez : B * C = z := hz.symm
        have wq : IntKind.i64.wrap (q : Int) = (q : Int) := IntWalk.i64_in _ (by omega)
        have wz : IntKind.i64.wrap z = z := IntWalk.i64_in _ (by omega)
        have wxz : IntKind.i64.wrap (x + z) = x + z := IntWalk.i64_in _ (by omega)
        clear hz
        go_upto_region 6 with fail
        go_region
        go_upto_region 7 with fail
        go_region_held3 (fun w' => (w'.cell? ⟨w.heap.size, 0, none⟩ = some (.int .i64 (n : Int)) ∧ w'.cell? ⟨w.heap.size, 1, none⟩ = some (.int .i64 (k : Int)) ∧ w'.cell? ⟨w.heap.size, 2, none⟩ = some (.int .i64 D)) ∧ w'.cell? ⟨g, j, none⟩ = some (.int .i64 (d : Nat)))
          (with_reducible first | exact HKc.out _ D3.out | exact HKc.out _ D2.out | exact HKc.out _ D00.out | exact HKc.out _ D0.out | fail)
          (first
            | (go_at_call 49; ((with_reducible refine (HBq.out _).mono ?_); rintro e v2 ⟨rfl, rfl⟩))
            | (go_at_call 20; ((with_reducible refine (HCd.out _).mono ?_); rintro e v4 ⟨rfl, hb⟩; have D3 := Lib.hid (bel0 D00.out hb); clear hb))
            | fail)
        go_wp2
        go_roundw
        case rel => exact ⟨j + 1, x + z, by go_num, by go_num, by omega, by omega, by omega, hN.out, HW.out.trans (D3.out.mono HW.out.size)⟩
        case measure => simp [intOf]; omega
      · have hN : Hid (nwF n k D (L.take (j + 1)) 0 = x) := by show _ = _; rw [HN.out, if_neg hm]
        have hm2 : ((d : Int) % D == 0) = false := by rw [beq_eq_false_iff_ne]; exact hm
        clear HN htb hld hmb hm
        go_upto_region 6 with fail
        go_region
        go_wp2
        go_roundw
        case rel => exact ⟨j + 1, x, by go_num, rfl, by omega, by omega, by omega, hN.out, HW.out.drew⟩
        case measure => simp [intOf]; omega
    · obtain rfl : j = L.length := by omega
      have hk3 : ¬ (L.length : Int) < (L.length : Int) := by omega
      have HE : Hid (x = nwV n k D) := by show _ = _; rw [← HP.out, HX.out]
      go_wp2
      go_ret
      exact ⟨ret_int' HE.out, HB2.out.trans (HW.out.mono HB2.out.size)⟩
end Go.Proofs.Ytaofkfphkkfbnaa
