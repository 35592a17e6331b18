/- The dimensions of a space: beta, Cusp, Eisenstein, Modular, New. -/
import Derived.Test.YtaofkfphkkfbnaaDnF
namespace Go.Proofs.Ytaofkfphkkfbnaa
open Go.RowKit
set_option linter.unusedVariables false
set_option linter.unusedSimpArgs false

theorem btF_append : ∀ l m x, (∀ q ∈ l, q.2 ≤ 2) → btF (l ++ m) x = btF m (btF l x)
  | [], _, _, _ => rfl
  | q :: l, m, x, h => by
    have hq := h q (by simp)
    have ih := fun y => btF_append l m y fun r hr => h r (by simp [hr])
    show (if 2 < q.2 then 0 else if q.2 = 1 then btF (l ++ m) (x * -2) else btF (l ++ m) x) = btF m (if 2 < q.2 then 0 else if q.2 = 1 then btF l (x * -2) else btF l x)
    have h2 : ¬ 2 < q.2 := by omega
    simp only [h2, ↓reduceIte]
    split
    · exact ih _
    · exact ih _
/-- What a round of beta knows: the factors before are small. -/
theorem btF_step {F : List (Nat × Nat)} {k : Nat} (h : k < F.length) (hs : ∀ q ∈ F.take k, q.2 ≤ 2) (x : Int) (hx : btF (F.take k) 1 = x) :
    (2 < F[k].2 → btF F 1 = 0) ∧ (F[k].2 = 1 → btF (F.take (k + 1)) 1 = x * -2) ∧ (¬ 2 < F[k].2 → ¬ F[k].2 = 1 → btF (F.take (k + 1)) 1 = x) ∧ (¬ 2 < F[k].2 → ∀ q ∈ F.take (k + 1), q.2 ≤ 2) := by
  have e : F.take (k + 1) = F.take k ++ [F[k]] := by rw [List.take_add_one, List.getElem?_eq_getElem h, Option.toList_some]
  refine ⟨fun h2 => ?_, fun h2 => ?_, fun h2 h3 => ?_, fun h2 q hq => ?_⟩
  · have hF : F = F.take k ++ F[k] :: F.drop (k + 1) := by rw [← List.drop_eq_getElem_cons h, List.take_append_drop]
    have h3 : btF F 1 = btF (F[k] :: F.drop (k + 1)) (btF (F.take k) 1) := by
      rw [← btF_append _ _ _ hs, ← hF]
    rw [h3]
    show (if 2 < F[k].2 then 0 else _) = (0 : Int)
    rw [if_pos h2]
  · rw [e, btF_append _ _ _ hs, hx]
    show (if 2 < F[k].2 then 0 else if F[k].2 = 1 then x * -2 else x) = x * -2
    rw [if_neg (by omega), if_pos h2]
  · rw [e, btF_append _ _ _ hs, hx]
    show (if 2 < F[k].2 then 0 else if F[k].2 = 1 then x * -2 else x) = x
    rw [if_neg h2, if_neg h3]
  · rw [e] at hq
    rcases List.mem_append.1 hq with h4 | h4
    · exact hs q h4
    · obtain rfl : q = F[k] := by simpa using h4
      omega
def btOk (n : Nat) : Bool := (List.range ((facs 2 n).length + 1)).all (fun k => decide (-100 ≤ btF ((facs 2 n).take k) 1) && decide (btF ((facs 2 n).take k) 1 ≤ 100)) && (facs 2 n).all (fun q => decide (1 ≤ q.2) && decide (q.2 ≤ 7)) && btR 200 2 n 1 == btP n && decide (-100 ≤ btP n) && decide (btP n ≤ 100)
set_option maxRecDepth 100000 in
theorem bt_all : (List.range 120).all (fun i => btOk (i + 1)) = true := by decide +kernel
structure BtF (n : Nat) : Prop where
  bd : ∀ k, k ≤ (facs 2 n).length → -100 ≤ btF ((facs 2 n).take k) 1 ∧ btF ((facs 2 n).take k) 1 ≤ 100
  q : ∀ q ∈ facs 2 n, 1 ≤ q.2 ∧ q.2 ≤ 7
  r : btR 200 2 n 1 = btP n
  b : -100 ≤ btP n ∧ btP n ≤ 100
theorem bt_of {n : Nat} (n1 : 1 ≤ n) (n2 : n ≤ 120) : BtF n := by
  have h := List.all_eq_true.1 bt_all (n - 1) (List.mem_range.2 (by omega))
  rw [show n - 1 + 1 = n by omega] at h
  unfold btOk at h
  simp only [Bool.and_eq_true, beq_iff_eq, List.all_eq_true, List.mem_range, decide_eq_true_eq] at h
  obtain ⟨⟨⟨⟨h1, h2⟩, h3⟩, h4⟩, h5⟩ := h
  exact ⟨fun k hk => h1 k (by omega), h2, h3, h4, h5⟩
set_option maxHeartbeats 3200000 in
set_option maxRecDepth 1000000 in
theorem beta_any (n : Nat) (w : World) (n1 : 1 ≤ n) (n2 : (n : Int) ≤ 120) :
    Calls Try.prog 44 #[.int .i64 (n : Int)] w fun e w' => e = .returned (.int .i64 (btP n)) ∧ Below w.heap.size w w' := by
  have hb := bt_of n1 (show n ≤ 120 by omega)
  have HFa := Lib.hid (fun W => factor_any n W n1 (by omega))
  have hfl := (art_of n1 (show n ≤ 120 by omega)).fl
  have HP : Hid (btF (facs 2 n) 1 = btP n) := rfl
  have HB := Lib.hid hb.bd
  have HM : Hid (∀ (k : Nat) (h : k < (facs 2 n).length), 1 ≤ (facs 2 n)[k].2 ∧ (facs 2 n)[k].2 ≤ 7) := fun k h => hb.q _ (List.getElem_mem h)
  have HT : Hid ((facs 2 n).take (facs 2 n).length = facs 2 n) := List.take_length
  clear hb
  generalize facs 2 n = F at *
  go_enter Try.func44, Try.ntmps44
  go_wp2_with (first
    | (go_at_call 68; ((with_reducible refine (HFa.out _).mono ?_); rintro e w2 ⟨v, rfl, ho, hb⟩; obtain ⟨la, ll, lc, rfl⟩ := ownsRow_slice ho; have HRd := Lib.hid (fac_read ho); have HB2 := Lib.hid hb; clear ho hb))
    | fail)
  obtain ⟨hll, hrd⟩ := HRd.out
  have HR := Lib.hid hrd
  subst hll
  clear HRd hrd HFa
  go_loopw [3, 7, 15] (fun X _ I wr => ∃ (k : Nat) (x : Int), I = .int .i64 k ∧ X = .int .i64 x ∧ k ≤ F.length ∧ -100 ≤ x ∧ x ≤ 100 ∧ Hid (btF (F.take k) 1 = x) ∧ Hid (∀ q ∈ F.take k, q.2 ≤ 2) ∧ Hid (Below w2.heap.size w2 wr)) (fun _ _ I _ => F.length - (intOf I).toNat)
  case atStart => exact ⟨0, 1, rfl, rfl, Nat.zero_le _, by omega, by omega, rfl, fun q hq => by simp at hq, Below.refl _ _⟩
  case round =>
    obtain ⟨k, x, rfl, rfl, hk, hx1, hx2, HX, HQ, HW⟩ := hrel
    by_cases hkl : k < F.length
    · have hkli : (k : Int) < (F.length : Int) := by omega
      obtain ⟨g, rfl, hg, y1, y2⟩ := HR.out k hkl
      obtain ⟨q1, q2⟩ := HM.out k hkl
      have x1 : wr.cell? ⟨g, k * 2, none⟩ = some (.int .i64 (F[k].1 : Int)) := (HW.out.cell (p := ⟨g, k * 2, none⟩) hg).trans y1
      have x2 : wr.cell? ⟨g, k * 2 + 1, none⟩ = some (.int .i64 (F[k].2 : Int)) := (HW.out.cell (p := ⟨g, k * 2 + 1, none⟩) hg).trans y2
      have hgw : g < wr.heap.size := Nat.lt_of_lt_of_le hg HW.out.size
      obtain ⟨s1, s2, s3, s4⟩ := btF_step hkl HQ.out x HX.out
      have hb := HB.out (k + 1) (by omega)
      have HWa : ∀ o, Hid (Below w2.heap.size w2 (wr.alloc o)) := fun o => HW.out.alloc (by have := HW.out.size; omega) o
      clear y1 y2 HX HQ
      generalize F[k].1 = p at *
      generalize F[k].2 = q at *
      by_cases e2 : 2 < q
      · have HE := Lib.hid (s1 e2)
        have e2i : 2 < (q : Int) := by omega
        clear s1 s2 s3 s4 hb
        go_wp2
        go_ret
        exact ⟨by first | (rw [← HP.out, HE.out]; done) | (rw [← HP.out, HE.out]; rfl), HB2.out.trans ((HWa _).out.mono HB2.out.size)⟩
      · have HQ2 := Lib.hid (s4 e2)
        have e2i : ¬ 2 < (q : Int) := by omega
        by_cases e1 : q = 1
        · have HN := Lib.hid (s2 e1)
          rw [HN.out] at hb
          have e1i : ((q : Int) == 1) = true := by rw [beq_iff_eq]; omega
          obtain ⟨hb1, hb2⟩ := hb
          clear s1 s2 s3 s4
          go_wp2
          go_roundw
          case rel => exact ⟨k + 1, x * -2, by go_num, rfl, by omega, hb1, hb2, HN.out, HQ2.out, (HWa _).out⟩
          case measure => simp [intOf]; omega
        · have HN := Lib.hid (s3 e2 e1)
          have e1i : ((q : Int) == 1) = false := by rw [beq_eq_false_iff_ne]; omega
          clear s1 s2 s3 s4 hb
          go_wp2
          go_roundw
          case rel => exact ⟨k + 1, x, by go_num, rfl, by omega, hx1, hx2, HN.out, HQ2.out, (HWa _).out⟩
          case measure => simp [intOf]; omega
    · obtain rfl : k = F.length := by omega
      have hk3 : ¬ (F.length : Int) < (F.length : Int) := by omega
      have HE : Hid (x = btP n) := by show _ = _; rw [← HP.out, ← HX.out, HT.out]
      go_wp2
      go_ret
      exact ⟨ret_int' HE.out, HB2.out.trans (HW.out.mono HB2.out.size)⟩
theorem ckV_ld {n : Nat} {W D : Int} (h : ckV (n : Int) W D = 0) : LD n D := by
  obtain ⟨⟨a1, a2⟩, _, ⟨a3, a4⟩, a5, a6, _⟩ := ckV_ok h
  exact ⟨by omega, by omega, a5, a3, a4, a6⟩
set_option maxHeartbeats 3200000 in
set_option maxRecDepth 1000000 in
theorem cusp_ok (n k : Nat) (D : Int) (w : World) (h : ckV n k D = 0) : Calls Try.prog 16 #[.agg #[.int .i64 (n : Int), .int .i64 (k : Int), .int .i64 D]] w fun e w' => e = .returned (.tuple #[.int .i64 (cpV n k D), .int .i64 0]) ∧ Below w.heap.size w w' := by
  have T0 : Hid ((w.alloc (.cells #[.int .i64 (n : Int), .int .i64 (k : Int), .int .i64 D] 23)).heap[w.heap.size]? = some (.cells #[.int .i64 (n : Int), .int .i64 (k : Int), .int .i64 D] 23 (0, 0))) := heap_alloc_new w _
  have HB0 : Hid (Below w.heap.size w (w.alloc (.cells #[.int .i64 (n : Int), .int .i64 (k : Int), .int .i64 D] 23))) := below1 w _
  obtain ⟨⟨c0, c1, c2⟩, _⟩ := three_of_blockD T0.out
  have hl := ckV_ld h
  obtain ⟨_, ⟨k1, k2⟩, ⟨d1, d2⟩, _⟩ := ckV_ok h
  have n2 : (n : Int) ≤ 120 := by have := hl.n2; omega
  have HCk := Lib.hid (fun V => check_any n k D V)
  rw [h] at HCk
  have HQ := Lib.hid (fun V => quad_any n D V d1 d2 n2)
  have HC' := Lib.hid (fun BB => by
    have HC := Lib.hid (fun (V : World) (hV : V.heap[BB]? = some (.cells #[.int .i64 D] 3 (0, 0))) => chcusp_any n k D BB V hl (by omega) (by omega) hV)
    exact HC)
  clear h hl
  generalize cpV n k D = cv at *
  generalize eiV n k D = ev at *
  go_enter Try.func16, Try.ntmps16
  go_upto_region 4 with (first
    | (go_at_call 14; ((with_reducible refine (HCk.out _).mono ?_); rintro e v1 ⟨rfl, hb⟩; have HB1 := Lib.hid (bel0 HB0.out hb).drew; have T1 : Hid (v1.drew.heap[w.heap.size]? = some (.cells #[.int .i64 (n : Int), .int .i64 (k : Int), .int .i64 D] 23 (0, 0))) := block_below T0.out hb.drew; clear hb c0 c1 c2))
    | fail)
  go_region_held3 (fun w' => w'.cell? ⟨w.heap.size, 0, none⟩ = some (.int .i64 (n : Int)) ∧ w'.cell? ⟨w.heap.size, 1, none⟩ = some (.int .i64 (k : Int)) ∧ w'.cell? ⟨w.heap.size, 2, none⟩ = some (.int .i64 D))
    (with_reducible first | exact (three_of_blockD T3.out).1 | exact (three_of_blockD T2.out).1 | exact (three_of_blockD T1.out).1 | fail)
    (first
      | (go_at_call 39; ((with_reducible refine (HQ.out _).mono ?_); rintro e v2 ⟨rfl, hb, hq, _⟩; have HB2 := Lib.hid (bel0 HB1.out hb); have T2 := Lib.hid (block_below T1.out hb); have Tq : Hid (v2.heap[v1.heap.size]? = some (.cells #[.int .i64 D] 3 (0, 0))) := hq; have HC := HC'.out v1.heap.size; clear hb hq))
      | (go_at_call 40; ((with_reducible refine (HC.out _ Tq.out).mono ?_); rintro e v3 ⟨rfl, hb⟩; have HB3 := Lib.hid (bel0 HB2.out hb); have T3 := Lib.hid (block_below T2.out hb); clear hb))
      | fail)
  go_wp2
  refine bodyPost_ret (v := .tuple #[.int .i64 (cv), .int .i64 0]) ?_ rfl ⟨rfl, HB3.out⟩
  simp [results, Try.results16, go_sem, *]
set_option maxHeartbeats 3200000 in
set_option maxRecDepth 1000000 in
theorem eis_ok (n k : Nat) (D : Int) (w : World) (h : ckV n k D = 0) : Calls Try.prog 17 #[.agg #[.int .i64 (n : Int), .int .i64 (k : Int), .int .i64 D]] w fun e w' => e = .returned (.tuple #[.int .i64 (eiV n k D), .int .i64 0]) ∧ Below w.heap.size w w' := by
  have T0 : Hid ((w.alloc (.cells #[.int .i64 (n : Int), .int .i64 (k : Int), .int .i64 D] 23)).heap[w.heap.size]? = some (.cells #[.int .i64 (n : Int), .int .i64 (k : Int), .int .i64 D] 23 (0, 0))) := heap_alloc_new w _
  have HB0 : Hid (Below w.heap.size w (w.alloc (.cells #[.int .i64 (n : Int), .int .i64 (k : Int), .int .i64 D] 23))) := below1 w _
  obtain ⟨⟨c0, c1, c2⟩, _⟩ := three_of_blockD T0.out
  have hl := ckV_ld h
  obtain ⟨_, ⟨k1, k2⟩, ⟨d1, d2⟩, _⟩ := ckV_ok h
  have n2 : (n : Int) ≤ 120 := by have := hl.n2; omega
  have HCk := Lib.hid (fun V => check_any n k D V)
  rw [h] at HCk
  have HQ := Lib.hid (fun V => quad_any n D V d1 d2 n2)
  have HC' := Lib.hid (fun BB => by
    have HC := Lib.hid (fun V => cheis_any n k D BB V hl (by omega) (by omega))
    exact HC)
  clear h hl
  generalize cpV n k D = cv at *
  generalize eiV n k D = ev at *
  go_enter Try.func17, Try.ntmps17
  go_upto_region 4 with (first
    | (go_at_call 14; ((with_reducible refine (HCk.out _).mono ?_); rintro e v1 ⟨rfl, hb⟩; have HB1 := Lib.hid (bel0 HB0.out hb).drew; have T1 : Hid (v1.drew.heap[w.heap.size]? = some (.cells #[.int .i64 (n : Int), .int .i64 (k : Int), .int .i64 D] 23 (0, 0))) := block_below T0.out hb.drew; clear hb c0 c1 c2))
    | fail)
  go_region_held3 (fun w' => w'.cell? ⟨w.heap.size, 0, none⟩ = some (.int .i64 (n : Int)) ∧ w'.cell? ⟨w.heap.size, 1, none⟩ = some (.int .i64 (k : Int)) ∧ w'.cell? ⟨w.heap.size, 2, none⟩ = some (.int .i64 D))
    (with_reducible first | exact (three_of_blockD T3.out).1 | exact (three_of_blockD T2.out).1 | exact (three_of_blockD T1.out).1 | fail)
    (first
      | (go_at_call 39; ((with_reducible refine (HQ.out _).mono ?_); rintro e v2 ⟨rfl, hb, hq, _⟩; have HB2 := Lib.hid (bel0 HB1.out hb); have T2 := Lib.hid (block_below T1.out hb); have Tq : Hid (v2.heap[v1.heap.size]? = some (.cells #[.int .i64 D] 3 (0, 0))) := hq; have HC := HC'.out v1.heap.size; clear hb hq))
      | (go_at_call 41; ((with_reducible refine (HC.out _).mono ?_); rintro e v3 ⟨rfl, hb⟩; have HB3 := Lib.hid (bel0 HB2.out hb); have T3 := Lib.hid (block_below T2.out hb); clear hb))
      | fail)
  go_wp2
  refine bodyPost_ret (v := .tuple #[.int .i64 (ev), .int .i64 0]) ?_ rfl ⟨rfl, HB3.out⟩
  simp [results, Try.results17, go_sem, *]
set_option maxHeartbeats 3200000 in
set_option maxRecDepth 1000000 in
theorem mod_ok (n k : Nat) (D : Int) (w : World) (h : ckV n k D = 0) : Calls Try.prog 18 #[.agg #[.int .i64 (n : Int), .int .i64 (k : Int), .int .i64 D]] w fun e w' => e = .returned (.tuple #[.int .i64 (cpV n k D + eiV n k D), .int .i64 0]) ∧ Below w.heap.size w w' := by
  have T0 : Hid ((w.alloc (.cells #[.int .i64 (n : Int), .int .i64 (k : Int), .int .i64 D] 23)).heap[w.heap.size]? = some (.cells #[.int .i64 (n : Int), .int .i64 (k : Int), .int .i64 D] 23 (0, 0))) := heap_alloc_new w _
  have HB0 : Hid (Below w.heap.size w (w.alloc (.cells #[.int .i64 (n : Int), .int .i64 (k : Int), .int .i64 D] 23))) := below1 w _
  obtain ⟨⟨c0, c1, c2⟩, _⟩ := three_of_blockD T0.out
  have hl := ckV_ld h
  obtain ⟨_, ⟨k1, k2⟩, ⟨d1, d2⟩, _⟩ := ckV_ok h
  have n2 : (n : Int) ≤ 120 := by have := hl.n2; omega
  have HCk := Lib.hid (fun V => check_any n k D V)
  rw [h] at HCk
  have HQ := Lib.hid (fun V => quad_any n D V d1 d2 n2)
  have HC' := Lib.hid (fun BB => by
    have HC := Lib.hid (fun (V : World) (hV : V.heap[BB]? = some (.cells #[.int .i64 D] 3 (0, 0))) => chmod_any n k D BB V hl (by omega) (by omega) hV)
    exact HC)
  clear h hl
  generalize cpV n k D = cv at *
  generalize eiV n k D = ev at *
  go_enter Try.func18, Try.ntmps18
  go_upto_region 4 with (first
    | (go_at_call 14; ((with_reducible refine (HCk.out _).mono ?_); rintro e v1 ⟨rfl, hb⟩; have HB1 := Lib.hid (bel0 HB0.out hb).drew; have T1 : Hid (v1.drew.heap[w.heap.size]? = some (.cells #[.int .i64 (n : Int), .int .i64 (k : Int), .int .i64 D] 23 (0, 0))) := block_below T0.out hb.drew; clear hb c0 c1 c2))
    | fail)
  go_region_held3 (fun w' => w'.cell? ⟨w.heap.size, 0, none⟩ = some (.int .i64 (n : Int)) ∧ w'.cell? ⟨w.heap.size, 1, none⟩ = some (.int .i64 (k : Int)) ∧ w'.cell? ⟨w.heap.size, 2, none⟩ = some (.int .i64 D))
    (with_reducible first | exact (three_of_blockD T3.out).1 | exact (three_of_blockD T2.out).1 | exact (three_of_blockD T1.out).1 | fail)
    (first
      | (go_at_call 39; ((with_reducible refine (HQ.out _).mono ?_); rintro e v2 ⟨rfl, hb, hq, _⟩; have HB2 := Lib.hid (bel0 HB1.out hb); have T2 := Lib.hid (block_below T1.out hb); have Tq : Hid (v2.heap[v1.heap.size]? = some (.cells #[.int .i64 D] 3 (0, 0))) := hq; have HC := HC'.out v1.heap.size; clear hb hq))
      | (go_at_call 42; ((with_reducible refine (HC.out _ Tq.out).mono ?_); rintro e v3 ⟨rfl, hb⟩; have HB3 := Lib.hid (bel0 HB2.out hb); have T3 := Lib.hid (block_below T2.out hb); clear hb))
      | fail)
  go_wp2
  refine bodyPost_ret (v := .tuple #[.int .i64 (cv + ev), .int .i64 0]) ?_ rfl ⟨rfl, HB3.out⟩
  simp [results, Try.results18, go_sem, *]
set_option maxHeartbeats 1600000 in
theorem cusp_bad (N W D : Int) (w : World) (h : ckV N W D ≠ 0) : Calls Try.prog 16 #[.agg #[.int .i64 N, .int .i64 W, .int .i64 D]] w fun e w' => e = .returned (.tuple #[.int .i64 0, .int .i64 (ckV N W D)]) ∧ Below w.heap.size w w' := by
  have T0 : Hid ((w.alloc (.cells #[.int .i64 N, .int .i64 W, .int .i64 D] 23)).heap[w.heap.size]? = some (.cells #[.int .i64 N, .int .i64 W, .int .i64 D] 23 (0, 0))) := heap_alloc_new w _
  have HB0 : Hid (Below w.heap.size w (w.alloc (.cells #[.int .i64 N, .int .i64 W, .int .i64 D] 23))) := below1 w _
  obtain ⟨⟨c0, c1, c2⟩, _⟩ := three_of_blockD T0.out
  have HC := Lib.hid (fun V => check_any N W D V)
  have hk1 : (ckV N W D != 0) = true := by rw [bne_iff_ne]; exact h
  clear h
  generalize ckV N W D = k at *
  go_enter Try.func16, Try.ntmps16
  go_wp2_with (first
    | (go_at_call 14; ((with_reducible refine (HC.out _).mono ?_); rintro e w2 ⟨rfl, hb⟩; have HB2 := Lib.hid (bel0 HB0.out hb); clear hb))
    | fail)
  refine bodyPost_ret (v := .tuple #[.int .i64 0, .int .i64 k]) ?_ rfl ⟨rfl, HB2.out⟩
  simp [results, Try.results16, go_sem, *]
set_option maxHeartbeats 1600000 in
theorem eis_bad (N W D : Int) (w : World) (h : ckV N W D ≠ 0) : Calls Try.prog 17 #[.agg #[.int .i64 N, .int .i64 W, .int .i64 D]] w fun e w' => e = .returned (.tuple #[.int .i64 0, .int .i64 (ckV N W D)]) ∧ Below w.heap.size w w' := by
  have T0 : Hid ((w.alloc (.cells #[.int .i64 N, .int .i64 W, .int .i64 D] 23)).heap[w.heap.size]? = some (.cells #[.int .i64 N, .int .i64 W, .int .i64 D] 23 (0, 0))) := heap_alloc_new w _
  have HB0 : Hid (Below w.heap.size w (w.alloc (.cells #[.int .i64 N, .int .i64 W, .int .i64 D] 23))) := below1 w _
  obtain ⟨⟨c0, c1, c2⟩, _⟩ := three_of_blockD T0.out
  have HC := Lib.hid (fun V => check_any N W D V)
  have hk1 : (ckV N W D != 0) = true := by rw [bne_iff_ne]; exact h
  clear h
  generalize ckV N W D = k at *
  go_enter Try.func17, Try.ntmps17
  go_wp2_with (first
    | (go_at_call 14; ((with_reducible refine (HC.out _).mono ?_); rintro e w2 ⟨rfl, hb⟩; have HB2 := Lib.hid (bel0 HB0.out hb); clear hb))
    | fail)
  refine bodyPost_ret (v := .tuple #[.int .i64 0, .int .i64 k]) ?_ rfl ⟨rfl, HB2.out⟩
  simp [results, Try.results17, go_sem, *]
set_option maxHeartbeats 1600000 in
theorem mod_bad (N W D : Int) (w : World) (h : ckV N W D ≠ 0) : Calls Try.prog 18 #[.agg #[.int .i64 N, .int .i64 W, .int .i64 D]] w fun e w' => e = .returned (.tuple #[.int .i64 0, .int .i64 (ckV N W D)]) ∧ Below w.heap.size w w' := by
  have T0 : Hid ((w.alloc (.cells #[.int .i64 N, .int .i64 W, .int .i64 D] 23)).heap[w.heap.size]? = some (.cells #[.int .i64 N, .int .i64 W, .int .i64 D] 23 (0, 0))) := heap_alloc_new w _
  have HB0 : Hid (Below w.heap.size w (w.alloc (.cells #[.int .i64 N, .int .i64 W, .int .i64 D] 23))) := below1 w _
  obtain ⟨⟨c0, c1, c2⟩, _⟩ := three_of_blockD T0.out
  have HC := Lib.hid (fun V => check_any N W D V)
  have hk1 : (ckV N W D != 0) = true := by rw [bne_iff_ne]; exact h
  clear h
  generalize ckV N W D = k at *
  go_enter Try.func18, Try.ntmps18
  go_wp2_with (first
    | (go_at_call 14; ((with_reducible refine (HC.out _).mono ?_); rintro e w2 ⟨rfl, hb⟩; have HB2 := Lib.hid (bel0 HB0.out hb); clear hb))
    | fail)
  refine bodyPost_ret (v := .tuple #[.int .i64 0, .int .i64 k]) ?_ rfl ⟨rfl, HB2.out⟩
  simp [results, Try.results18, go_sem, *]
set_option maxHeartbeats 1600000 in
theorem new_bad (N W D : Int) (w : World) (h : ckV N W D ≠ 0) : Calls Try.prog 19 #[.agg #[.int .i64 N, .int .i64 W, .int .i64 D]] w fun e w' => e = .returned (.tuple #[.int .i64 0, .int .i64 (ckV N W D)]) ∧ Below w.heap.size w w' := by
  have T0 : Hid ((w.alloc (.cells #[.int .i64 N, .int .i64 W, .int .i64 D] 23)).heap[w.heap.size]? = some (.cells #[.int .i64 N, .int .i64 W, .int .i64 D] 23 (0, 0))) := heap_alloc_new w _
  have HB0 : Hid (Below w.heap.size w (w.alloc (.cells #[.int .i64 N, .int .i64 W, .int .i64 D] 23))) := below1 w _
  obtain ⟨⟨c0, c1, c2⟩, _⟩ := three_of_blockD T0.out
  have HC := Lib.hid (fun V => check_any N W D V)
  have hk1 : (ckV N W D != 0) = true := by rw [bne_iff_ne]; exact h
  clear h
  generalize ckV N W D = k at *
  go_enter Try.func19, Try.ntmps19
  go_wp2_with (first
    | (go_at_call 14; ((with_reducible refine (HC.out _).mono ?_); rintro e w2 ⟨rfl, hb⟩; have HB2 := Lib.hid (bel0 HB0.out hb); clear hb))
    | fail)
  refine bodyPost_ret (v := .tuple #[.int .i64 0, .int .i64 k]) ?_ rfl ⟨rfl, HB2.out⟩
  simp [results, Try.results19, go_sem, *]
end Go.Proofs.Ytaofkfphkkfbnaa
