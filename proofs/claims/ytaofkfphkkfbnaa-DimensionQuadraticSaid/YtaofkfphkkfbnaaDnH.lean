/- The dimension of the new space. -/
import Derived.Test.YtaofkfphkkfbnaaDnG
namespace Go.Proofs.Ytaofkfphkkfbnaa
open Go.RowKit
set_option linter.unusedVariables false
set_option linter.unusedSimpArgs false

theorem nwF_append (n k : Nat) (D : Int) : ∀ l m x, nwF n k D (l ++ m) x = nwF n k D m (nwF n k D l x)
  | [], _, _ => rfl
  | d :: l, m, x => by
    show (if (d : Int) % D = 0 then nwF n k D (l ++ m) (x + btP (n / d) * cpV d k D) else nwF n k D (l ++ m) x) = nwF n k D m (if (d : Int) % D = 0 then nwF n k D l (x + btP (n / d) * cpV d k D) else nwF n k D l x)
    split
    · exact nwF_append n k D l m _
    · exact nwF_append n k D l m _
/-- A divisor of a level. -/
theorem LD.div {n d : Nat} {D : Int} (h : LD n D) (hd : d ∣ n) (hm : (d : Int) % D = 0) : LD d D := by
  have h1 := h.n1
  have h2 := h.n2
  have hle := Nat.le_of_dvd (by omega) hd
  have hpos := Nat.pos_of_dvd_of_pos hd (by omega)
  exact ⟨hpos, by omega, h.f, h.d1, h.d2, hm⟩
theorem term_bd {n d k : Nat} {D : Int} (h : LD n D) (hd : d ∣ n) (hm : (d : Int) % D = 0) (k1 : 2 ≤ k) (k2 : k ≤ 24) : -1000000 ≤ btP (n / d) * cpV d k D ∧ btP (n / d) * cpV d k D ≤ 1000000 := by
  have h1 := h.n1
  have h2 := h.n2
  have hle := Nat.le_of_dvd (by omega) hd
  have hpos := Nat.pos_of_dvd_of_pos hd (by omega)
  have hq1 : 1 ≤ n / d := Nat.div_pos hle hpos
  have hq2 : n / d ≤ 120 := Nat.le_trans (Nat.div_le_self _ _) h2
  have hb := (bt_of hq1 hq2).b
  have hc := cp_bd (h.div hd hm) k1 k2
  have := Int.natAbs_mul (btP (n / d)) (cpV d k D)
  have h3 : (btP (n / d)).natAbs * (cpV d k D).natAbs ≤ 100 * 10000 := Nat.mul_le_mul (by omega) (by omega)
  omega
set_option maxHeartbeats 6400000 in
set_option maxRecDepth 1000000 in
theorem new_ok (n k : Nat) (D : Int) (w : World) (h : ckV n k D = 0) : Calls Try.prog 19 #[.agg #[.int .i64 (n : Int), .int .i64 (k : Int), .int .i64 D]] w fun e w' => e = .returned (.tuple #[.int .i64 (nwV n k D), .int .i64 0]) ∧ Below w.heap.size w w' := by
  have T0 : Hid ((w.alloc (.cells #[.int .i64 (n : Int), .int .i64 (k : Int), .int .i64 D] 23)).heap[w.heap.size]? = some (.cells #[.int .i64 (n : Int), .int .i64 (k : Int), .int .i64 D] 23 (0, 0))) := heap_alloc_new w _
  have HB0 : Hid (Below w.heap.size w (w.alloc (.cells #[.int .i64 (n : Int), .int .i64 (k : Int), .int .i64 D] 23))) := below1 w _
  obtain ⟨⟨c0, c1, c2⟩, _⟩ := three_of_blockD T0.out
  have hl := ckV_ld h
  obtain ⟨_, ⟨k1, k2⟩, ⟨d1, d2⟩, _⟩ := ckV_ok h
  have n1 := hl.n1
  have n2 : (n : Int) ≤ 120 := by have := hl.n2; omega
  have HCk := Lib.hid (fun V => check_any n k D V)
  rw [h] at HCk
  have HDv := Lib.hid (fun V => divs_any n V n1 n2)
  have hDl := (dvN_bd n1 (by omega)).1
  have HMem := Lib.hid (dvN_bd n1 (by omega)).2
  have HP : Hid (nwF n k D ((dvN n).take (dvN n).length) 0 = nwV n k D) := by show _ = _; rw [List.take_length]; rfl
  have HLD := Lib.hid (fun (d : Nat) (hd : d ∣ n) (hm : (d : Int) % D = 0) => hl.div hd hm)
  have HTb := Lib.hid (fun (d : Nat) (hd : d ∣ n) (hm : (d : Int) % D = 0) => term_bd (k := k) hl hd hm (by omega) (by omega))
  have hD0 : D ≠ 0 := fun e => by have := hl.f; rw [e] at this; cases this
  have hD1 : (D == 0) = false := by rw [beq_eq_false_iff_ne]; exact hD0
  have HBt := Lib.hid (fun (m : Nat) (V : World) (m1 : 1 ≤ m) (m2 : (m : Int) ≤ 120) => beta_any m V m1 m2)
  clear h hl
  generalize dvN n = L at *
  go_enter Try.func19, Try.ntmps19
  go_wp2_with (first
    | (go_at_call 14; ((with_reducible refine (HCk.out _).mono ?_); rintro e v1 ⟨rfl, hb⟩; have HB1 := Lib.hid (bel0 HB0.out hb); have T1 := Lib.hid (block_below T0.out hb); clear c0 c1 c2; obtain ⟨⟨c0, c1, c2⟩, _⟩ := three_of_blockD T1.out; clear hb))
    | (go_at_call 43; ((with_reducible refine (HDv.out _).mono ?_); rintro e w2 ⟨la, lc, rfl, hr, hb⟩; have HR := Lib.hid hr; have HB2 := Lib.hid (bel0 HB1.out hb); have T2 := Lib.hid (block_below T1.out hb); clear hr hb c0 c1 c2))
    | fail)
  clear HCk HDv
  go_loopw [5, 9, 23] (fun X _ I wr => ∃ (j : Nat) (x : Int), I = .int .i64 j ∧ X = .int .i64 x ∧ j ≤ L.length ∧ -1000000 * (j : Int) ≤ x ∧ x ≤ 1000000 * (j : Int) ∧ Hid (nwF n k D (L.take j) 0 = x) ∧ Hid (Below w2.heap.size w2 wr)) (fun _ _ I _ => L.length - (intOf I).toNat)
  case atStart => exact ⟨0, 0, rfl, rfl, Nat.zero_le _, by omega, by omega, rfl, Below.refl _ _⟩
  case round =>
    obtain ⟨j, x, rfl, rfl, hj, hx1, hx2, HX, HW⟩ := hrel
    by_cases hjl : j < L.length
    · have hjli : (j : Int) < (L.length : Int) := by omega
      obtain ⟨g, rfl, hg, y1⟩ := HR.out j hjl
      obtain ⟨m1, m2, m3⟩ := HMem.out L[j] (List.getElem_mem _)
      have x1 : wr.cell? ⟨g, j, none⟩ = some (.int .i64 (L[j] : Nat)) := (HW.out.cell (p := ⟨g, j, none⟩) hg).trans y1
      have hgw : g < wr.heap.size := Nat.lt_of_lt_of_le hg HW.out.size
      have HN : Hid (nwF n k D (L.take (j + 1)) 0 = if (L[j] : Int) % D = 0 then x + btP (n / L[j]) * cpV L[j] k D else x) := by
        show _ = _
        rw [List.take_add_one, List.getElem?_eq_getElem hjl, Option.toList_some, nwF_append, HX.out]; rfl
      have hld := HLD.out L[j] m2
      have htb := HTb.out L[j] m2
      have hq1 : 1 ≤ n / L[j] := Nat.div_pos (Nat.le_of_dvd (by omega) m2) m1
      have hq2 : n / L[j] ≤ 120 := Nat.le_trans (Nat.div_le_self _ _) (by omega)
      clear y1 HX m2
      generalize L[j] = d at *
      have hd : (n : Int) / (d : Int) = ((n / d : Nat) : Int) := (Int.natCast_ediv _ _).symm
      have htd : Int.tdiv (n : Int) (d : Int) = ((n / d : Nat) : Int) := (Int.ofNat_tdiv _ _).symm
      have hdi1 : 1 ≤ (d : Int) := by omega
      have hdi2 : (d : Int) ≤ 120 := by omega
      have hd0 : ((d : Int) == 0) = false := by rw [beq_eq_false_iff_ne]; omega
      have hd01 : ¬ ((d : Int) = 0) := by omega
      have hd02 : ¬ (d = 0) := by omega
      have htm : Int.tmod (d : Int) D = (d : Int) % D := Int.tmod_eq_emod_of_nonneg (by omega)
      have Tw := Lib.hid (block_below T2.out HW.out)
      obtain ⟨⟨c0, c1, c2⟩, _⟩ := three_of_blockD Tw.out
      by_cases hm : (d : Int) % D = 0
      · have hN : Hid (nwF n k D (L.take (j + 1)) 0 = x + btP (n / d) * cpV d k D) := by show _ = _; rw [HN.out, if_pos hm]
        have htb2 := htb hm
        have HBq := Lib.hid (fun V => HBt.out (n / d) V hq1 (by omega))
        have HQd := Lib.hid (fun V => quad_any d D V d1 d2 hdi2)
        have HCd := Lib.hid (fun (b : Nat) (V : World) (hV : V.heap[b]? = some (.cells #[.int .i64 D] 3 (0, 0))) => chcusp_any d k D b V (hld hm) k1 k2 hV)
        have hm2 : ((d : Int) % D == 0) = true := by rw [beq_iff_eq]; exact hm
        clear HN htb hld hm
        generalize btP (n / d) = B at *
        generalize cpV d k D = C at *
        generalize n / d = q at *
        obtain ⟨z, hz⟩ : ∃ z, z = B * C := ⟨_, rfl⟩
        rw [← hz] at htb2 hN
        have ez : B * C = z := hz.symm
        have wq : IntKind.i64.wrap (q : Int) = (q : Int) := IntWalk.i64_in _ (by omega)
        have wz : IntKind.i64.wrap z = z := IntWalk.i64_in _ (by omega)
        have wxz : IntKind.i64.wrap (x + z) = x + z := IntWalk.i64_in _ (by omega)
        clear hz
        have HKc : Hid (∀ W, Below wr.heap.size wr W → W.heap[w.heap.size]? = some (.cells #[.int .i64 (n : Int), .int .i64 (k : Int), .int .i64 D] 23 (0, 0))) := fun W hb => block_below Tw.out hb
        have D0 : Hid (Below wr.heap.size wr wr.drew) := Below.drew (Below.refl _ _)
        go_upto_region 10 with fail
        go_region_held3 (fun w' => w'.cell? ⟨w.heap.size, 0, none⟩ = some (.int .i64 (n : Int)) ∧ w'.cell? ⟨w.heap.size, 1, none⟩ = some (.int .i64 (k : Int)) ∧ w'.cell? ⟨w.heap.size, 2, none⟩ = some (.int .i64 D))
          (with_reducible first | exact (three_of_blockD (HKc.out _ D3.out)).1 | exact (three_of_blockD (HKc.out _ D2.out)).1 | exact (three_of_blockD (HKc.out _ D1.out)).1 | exact (three_of_blockD (HKc.out _ D0.out)).1 | fail)
          (first
            | (go_at_call 44; ((with_reducible refine (HBq.out _).mono ?_); rintro e v2 ⟨rfl, hb⟩; have D1 := Lib.hid (bel0 D0.out hb); clear hb))
            | (go_at_call 39; ((with_reducible refine (HQd.out _).mono ?_); rintro e v3 ⟨rfl, hb, hq, _⟩; have D2 := Lib.hid (bel0 D1.out hb); have Tq : Hid (v3.heap[v2.heap.size]? = some (.cells #[.int .i64 D] 3 (0, 0))) := hq; clear hb hq))
            | (go_at_call 40; ((with_reducible refine (HCd.out _ _ Tq.out).mono ?_); rintro e v4 ⟨rfl, hb⟩; have D3 := Lib.hid (bel0 D2.out hb); clear hb))
            | fail)
        go_wp2
        go_roundw
        case rel => exact ⟨j + 1, x + z, by go_num, by go_num, by omega, by omega, by omega, hN.out, HW.out.trans (D3.out.mono HW.out.size)⟩
        case measure => simp [intOf]; omega
      · have hN : Hid (nwF n k D (L.take (j + 1)) 0 = x) := by show _ = _; rw [HN.out, if_neg hm]
        have hm2 : ((d : Int) % D == 0) = false := by rw [beq_eq_false_iff_ne]; exact hm
        clear HN htb hld hm
        go_wp2
        go_roundw
        case rel => exact ⟨j + 1, x, by go_num, rfl, by omega, by omega, by omega, hN.out, HW.out⟩
        case measure => simp [intOf]; omega
    · obtain rfl : j = L.length := by omega
      have hk3 : ¬ (L.length : Int) < (L.length : Int) := by omega
      have HE : Hid (x = nwV n k D) := by show _ = _; rw [← HP.out, HX.out]
      go_wp2
      refine bodyPost_ret (v := .tuple #[.int .i64 x, .int .i64 0]) ?_ rfl ⟨by rw [HE.out], HB2.out.trans (HW.out.mono HB2.out.size)⟩
      simp [results, Try.results19, go_sem, *]
end Go.Proofs.Ytaofkfphkkfbnaa
