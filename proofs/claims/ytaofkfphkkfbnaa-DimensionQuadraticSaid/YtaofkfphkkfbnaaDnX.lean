/- The dimensions of a signature: the project's functions and the reference's values. The statements of layer 31 without characters: the guard, DimensionChecks, DimensionSpaces. -/
import Derived.Test.YtaofkfphkkfbnaaDnM
namespace Go.Proofs.Ytaofkfphkkfbnaa
open Go.RowKit
set_option linter.unusedVariables false
set_option linter.unusedSimpArgs false

/-- The numbers of a signature that is possible. -/
structure SgOk (ix gn n2 n3 cu ir : Int) (mi : Bool) : Prop where
  fix : 0 ≤ ix ∧ ix ≤ 10000
  fgn : 0 ≤ gn ∧ gn ≤ 10000
  fn2 : 0 ≤ n2 ∧ n2 ≤ 10000
  fn3 : 0 ≤ n3 ∧ n3 ≤ 10000
  fcu : 0 ≤ cu ∧ cu ≤ 10000
  fir : 0 ≤ ir ∧ ir ≤ cu
  fev : mi = false → (cu - ir) % 2 = 0
theorem sg_ok {ix gn n2 n3 cu ir : Int} {mi : Bool} (h : isgB ix gn n2 n3 cu ir mi = true) : SgOk ix gn n2 n3 cu ir mi := by
  unfold isgB at h
  simp only [Bool.and_eq_true, decide_eq_true_eq, Bool.not_eq_true'] at h
  obtain ⟨⟨⟨⟨⟨⟨⟨⟨⟨h0, h1⟩, h2⟩, h3⟩, h4⟩, h5⟩, h6⟩, h7⟩, h8⟩, h9⟩ := h
  refine ⟨h0, h1, h2, h3, h4, ⟨h5.1, h6⟩, fun hm => ?_⟩
  subst hm
  simp only [Bool.not_false, Bool.true_and, Bool.or_eq_false_iff, decide_eq_false_iff_not] at h8
  omega
/-- The error of a signature and a weight. -/
def cksV (ix gn n2 n3 cu ir : Int) (mi : Bool) (k : Int) : Int :=
  if k < 2 ∨ 24 < k then 2 else if isgB ix gn n2 n3 cu ir mi = false then 3 else if (decide (k % 2 = 1) && mi) = true then 16 else 0
/-- The dimension of the cusp forms, and how much greater that of all forms is. -/
def scV (gn n2 n3 cu ir k : Int) : Int :=
  if k = 2 then gn else if k % 2 = 0 then (k - 1) * (gn - 1) + k / 4 * n2 + k / 3 * n3 + (k / 2 - 1) * cu
  else (k - 1) * (gn - 1) + k / 3 * n3 + (k - 2) * ((cu - ir) / 2) + (k - 1) / 2 * ir
def seV (cu ir k : Int) : Int := if k = 2 then cu - 1 else if k % 2 = 0 then cu else cu - ir
theorem mul_bdS {a b : Int} (a0 : 0 ≤ a) (a1 : a ≤ 24) (b0 : -1 ≤ b) (b1 : b ≤ 10000) : -240000 ≤ a * b ∧ a * b ≤ 240000 := by
  have h := Int.natAbs_mul a b
  have h2 : a.natAbs * b.natAbs ≤ 24 * 10000 := Nat.mul_le_mul (by omega) (by omega)
  omega
theorem scV_bd {ix gn n2 n3 cu ir k : Int} {mi : Bool} (h : SgOk ix gn n2 n3 cu ir mi) (k1 : 2 ≤ k) (k2 : k ≤ 24) : -1000000 ≤ scV gn n2 n3 cu ir k ∧ scV gn n2 n3 cu ir k ≤ 1000000 := by
  obtain ⟨g1, g2⟩ := h.fgn
  obtain ⟨p1, p2⟩ := h.fn2
  obtain ⟨q1, q2⟩ := h.fn3
  obtain ⟨r1, r2⟩ := h.fcu
  obtain ⟨s1, s2⟩ := h.fir
  have m1 := mul_bdS (a := k - 1) (b := gn - 1) (by omega) (by omega) (by omega) (by omega)
  have m2 := mul_bdS (a := k / 4) (b := n2) (by omega) (by omega) (by omega) (by omega)
  have m3 := mul_bdS (a := k / 3) (b := n3) (by omega) (by omega) (by omega) (by omega)
  have m4 := mul_bdS (a := k / 2 - 1) (b := cu) (by omega) (by omega) (by omega) (by omega)
  have m5 := mul_bdS (a := k - 2) (b := (cu - ir) / 2) (by omega) (by omega) (by omega) (by omega)
  have m6 := mul_bdS (a := (k - 1) / 2) (b := ir) (by omega) (by omega) (by omega) (by omega)
  unfold scV
  generalize (k - 1) * (gn - 1) = x1 at *
  generalize k / 4 * n2 = x2 at *
  generalize k / 3 * n3 = x3 at *
  generalize (k / 2 - 1) * cu = x4 at *
  generalize (k - 2) * ((cu - ir) / 2) = x5 at *
  generalize (k - 1) / 2 * ir = x6 at *
  split
  · omega
  · split <;> omega
set_option maxHeartbeats 3200000 in
set_option maxRecDepth 1000000 in
theorem cksig_any (ix gn n2 n3 cu ir : Int) (mi : Bool) (k : Int) (w : World) :
    Calls Try.prog 63 #[.agg #[.int .i64 ix, .int .i64 gn, .int .i64 n2, .int .i64 n3, .int .i64 cu, .int .i64 ir, .bool mi], .int .i64 k] w fun e w' => e = .returned (.int .i64 (cksV ix gn n2 n3 cu ir mi k)) ∧ Below w.heap.size w w' := by
  have T0 : Hid ((w.alloc (.cells #[.int .i64 ix, .int .i64 gn, .int .i64 n2, .int .i64 n3, .int .i64 cu, .int .i64 ir, .bool mi] 32)).heap[w.heap.size]? = some (.cells #[.int .i64 ix, .int .i64 gn, .int .i64 n2, .int .i64 n3, .int .i64 cu, .int .i64 ir, .bool mi] 32 (0, 0))) := heap_alloc_new w _
  have HB0 : Hid (Below w.heap.size w (w.alloc (.cells #[.int .i64 ix, .int .i64 gn, .int .i64 n2, .int .i64 n3, .int .i64 cu, .int .i64 ir, .bool mi] 32))) := below1 w _
  obtain ⟨⟨c0, c1, c2, c3, c4, c5, c6⟩, _⟩ := seven_of_block T0.out
  have HW := Lib.hid (fun V => isw_any k V)
  have HI := Lib.hid (fun V => issig_any ix gn n2 n3 cu ir mi V)
  by_cases h1 : k < 2 ∨ 24 < k
  · rw [show cksV ix gn n2 n3 cu ir mi k = 2 by unfold cksV; rw [if_pos h1]]
    rw [decide_eq_false (show ¬ (2 ≤ k ∧ k ≤ 24) by omega)] at HW
    clear h1
    go_enter Try.func63, Try.ntmps63
    go_wp2_with (first
      | (go_at_call 37; ((with_reducible refine (HW.out _).mono ?_); rintro e v1 ⟨rfl, rfl⟩))
      | fail)
    go_ret
    exact ⟨rfl, HB0.out⟩
  rw [decide_eq_true (show 2 ≤ k ∧ k ≤ 24 by omega)] at HW
  by_cases h2 : isgB ix gn n2 n3 cu ir mi = false
  · rw [show cksV ix gn n2 n3 cu ir mi k = 3 by unfold cksV; rw [if_neg h1, if_pos h2]]
    rw [h2] at HI
    clear h1 h2
    go_enter Try.func63, Try.ntmps63
    go_wp2_with (first
      | (go_at_call 37; ((with_reducible refine (HW.out _).mono ?_); rintro e v1 ⟨rfl, rfl⟩))
      | (go_at_call 94; ((with_reducible refine (HI.out _).mono ?_); rintro e v2 ⟨rfl, hb⟩; have HB2 := Lib.hid (bel0 HB0.out hb); clear hb))
      | fail)
    go_ret
    exact ⟨rfl, HB2.out⟩
  have h2' : isgB ix gn n2 n3 cu ir mi = true := by simpa using h2
  rw [h2'] at HI
  have k1 : 2 ≤ k := by omega
  have k2 : k ≤ 24 := by omega
  have hc : cksV ix gn n2 n3 cu ir mi k = if (decide (k % 2 = 1) && mi) = true then 16 else 0 := by unfold cksV; rw [if_neg h1, if_neg h2]
  rw [hc]
  clear h1 h2 h2' hc
  by_cases h3 : k % 2 = 1
  · have f3 : (k % 2 == 1) = true := by rw [beq_iff_eq]; exact h3
    rw [decide_eq_true h3]
    clear h3
    cases mi
    all_goals
      go_enter Try.func63, Try.ntmps63
      go_wp2_with (first
        | (go_at_call 37; ((with_reducible refine (HW.out _).mono ?_); rintro e v1 ⟨rfl, rfl⟩))
        | (go_at_call 94; ((with_reducible refine (HI.out _).mono ?_); rintro e v2 ⟨rfl, hb⟩; have HB2 := Lib.hid (bel0 HB0.out hb); have T2 := Lib.hid (block_below T0.out hb); clear c0 c1 c2 c3 c4 c5 c6; obtain ⟨⟨c0, c1, c2, c3, c4, c5, c6⟩, _⟩ := seven_of_block T2.out; clear hb))
        | fail)
      go_ret
      exact ⟨rfl, HB2.out⟩
  · have f3 : (k % 2 == 1) = false := by rw [beq_eq_false_iff_ne]; exact h3
    rw [decide_eq_false h3]
    clear h3
    go_enter Try.func63, Try.ntmps63
    go_wp2_with (first
      | (go_at_call 37; ((with_reducible refine (HW.out _).mono ?_); rintro e v1 ⟨rfl, rfl⟩))
      | (go_at_call 94; ((with_reducible refine (HI.out _).mono ?_); rintro e v2 ⟨rfl, hb⟩; have HB2 := Lib.hid (bel0 HB0.out hb); have T2 := Lib.hid (block_below T0.out hb); clear c0 c1 c2 c3 c4 c5 c6; obtain ⟨⟨c0, c1, c2, c3, c4, c5, c6⟩, _⟩ := seven_of_block T2.out; clear hb))
      | fail)
    go_ret
    exact ⟨rfl, HB2.out⟩
set_option maxHeartbeats 3200000 in
set_option maxRecDepth 1000000 in
theorem cs_any (ix gn n2 n3 cu ir : Int) (mi : Bool) (k : Int) (w : World) (h : SgOk ix gn n2 n3 cu ir mi) (k1 : 2 ≤ k) (k2 : k ≤ 24) (hm : k % 2 = 0 ∨ mi = false) :
    Calls Try.prog 64 #[.agg #[.int .i64 ix, .int .i64 gn, .int .i64 n2, .int .i64 n3, .int .i64 cu, .int .i64 ir, .bool mi], .int .i64 k] w fun e w' => e = .returned (.int .i64 (scV gn n2 n3 cu ir k)) ∧ Below w.heap.size w w' := by
  have T0 : Hid ((w.alloc (.cells #[.int .i64 ix, .int .i64 gn, .int .i64 n2, .int .i64 n3, .int .i64 cu, .int .i64 ir, .bool mi] 32)).heap[w.heap.size]? = some (.cells #[.int .i64 ix, .int .i64 gn, .int .i64 n2, .int .i64 n3, .int .i64 cu, .int .i64 ir, .bool mi] 32 (0, 0))) := heap_alloc_new w _
  have HB0 : Hid (Below w.heap.size w (w.alloc (.cells #[.int .i64 ix, .int .i64 gn, .int .i64 n2, .int .i64 n3, .int .i64 cu, .int .i64 ir, .bool mi] 32))) := below1 w _
  obtain ⟨⟨c0, c1, c2, c3, c4, c5, c6⟩, _⟩ := seven_of_block T0.out
  obtain ⟨g1, g2⟩ := h.fgn
  obtain ⟨p1, p2⟩ := h.fn2
  obtain ⟨q1, q2⟩ := h.fn3
  obtain ⟨r1, r2⟩ := h.fcu
  obtain ⟨s1, s2⟩ := h.fir
  have hbd := scV_bd h k1 k2
  by_cases h1 : k = 2
  · rw [show scV gn n2 n3 cu ir k = gn by unfold scV; rw [if_pos h1]]
    subst h1
    go_enter Try.func64, Try.ntmps64
    go_wp2
    go_ret
    exact ⟨rfl, HB0.out⟩
  have f1 : (k == 2) = false := by rw [beq_eq_false_iff_ne]; exact h1
  have m1 := mul_bdS (a := k - 1) (b := gn - 1) (by omega) (by omega) (by omega) (by omega)
  have m3 := mul_bdS (a := k / 3) (b := n3) (by omega) (by omega) (by omega) (by omega)
  by_cases h2 : k % 2 = 0
  · have m2 := mul_bdS (a := k / 4) (b := n2) (by omega) (by omega) (by omega) (by omega)
    have m4 := mul_bdS (a := k / 2 - 1) (b := cu) (by omega) (by omega) (by omega) (by omega)
    have HV : Hid ((k - 1) * (gn - 1) + k / 4 * n2 + k / 3 * n3 + (k / 2 - 1) * cu = scV gn n2 n3 cu ir k) := by show _ = _; unfold scV; rw [if_neg h1, if_pos h2]
    have f2 : (k % 2 == 0) = true := by rw [beq_iff_eq]; exact h2
    have v1 : 1 ≤ k / 2 := by omega
    have v2 : k / 2 ≤ 12 := by omega
    clear h1 h2 hbd h hm
    generalize scV gn n2 n3 cu ir k = V at *
    generalize hx1 : (k - 1) * (gn - 1) = x1 at *
    generalize hx2 : k / 4 * n2 = x2 at *
    generalize hx3 : k / 3 * n3 = x3 at *
    generalize hx4 : (k / 2 - 1) * cu = x4 at *
    obtain ⟨m11, m12⟩ := m1
    obtain ⟨m21, m22⟩ := m2
    obtain ⟨m31, m32⟩ := m3
    obtain ⟨m41, m42⟩ := m4
    obtain ⟨y4, hy4⟩ : ∃ y, y = k / 4 := ⟨_, rfl⟩
    obtain ⟨y3, hy3⟩ : ∃ y, y = k / 3 := ⟨_, rfl⟩
    obtain ⟨y2, hy2⟩ : ∃ y, y = k / 2 := ⟨_, rfl⟩
    have b4 : 0 ≤ y4 ∧ y4 ≤ 6 := by omega
    have b3 : 0 ≤ y3 ∧ y3 ≤ 8 := by omega
    rw [← hy4] at hx2
    rw [← hy3] at hx3
    rw [← hy2] at hx4 v1 v2
    have z4 : k / 4 = y4 := hy4.symm
    have z3 : k / 3 = y3 := hy3.symm
    have z2 : k / 2 = y2 := hy2.symm
    obtain ⟨b41, b42⟩ := b4
    obtain ⟨b31, b32⟩ := b3
    clear hy4 hy3 hy2
    go_enter Try.func64, Try.ntmps64
    go_wp2
    go_ret
    exact ⟨ret_int' HV.out, HB0.out⟩
  · have hmi : mi = false := by rcases hm with h3 | h3; (exact absurd h3 h2); exact h3
    have hev := h.fev hmi
    subst hmi
    have m5 := mul_bdS (a := k - 2) (b := (cu - ir) / 2) (by omega) (by omega) (by omega) (by omega)
    have m6 := mul_bdS (a := (k - 1) / 2) (b := ir) (by omega) (by omega) (by omega) (by omega)
    have HV : Hid ((k - 1) * (gn - 1) + k / 3 * n3 + (k - 2) * ((cu - ir) / 2) + (k - 1) / 2 * ir = scV gn n2 n3 cu ir k) := by show _ = _; unfold scV; rw [if_neg h1, if_neg h2]
    have f2 : (k % 2 == 0) = false := by rw [beq_eq_false_iff_ne]; exact h2
    have hc1 : 0 ≤ cu - ir := by omega
    have hc2 : cu - ir ≤ 10000 := by omega
    have hx5 : (k - 2) * (cu - ir) / 2 = (k - 2) * ((cu - ir) / 2) := Int.mul_ediv_assoc _ (Int.dvd_of_emod_eq_zero hev)
    have hp0 : 0 ≤ (k - 2) * (cu - ir) := Int.mul_nonneg (by omega) hc1
    have hp1 := (mul_bdS (a := k - 2) (b := cu - ir) (by omega) (by omega) (by omega) (by omega)).2
    clear h1 h2 hbd h hev hm
    generalize hx5' : (k - 2) * ((cu - ir) / 2) = x5 at *
    generalize hx7 : (k - 2) * (cu - ir) = x7 at *
    clear hx5'
    generalize scV gn n2 n3 cu ir k = V at *
    generalize hx1 : (k - 1) * (gn - 1) = x1 at *
    generalize hx3 : k / 3 * n3 = x3 at *
    generalize hx6 : (k - 1) / 2 * ir = x6 at *
    obtain ⟨m11, m12⟩ := m1
    obtain ⟨m31, m32⟩ := m3
    obtain ⟨m51, m52⟩ := m5
    obtain ⟨m61, m62⟩ := m6
    obtain ⟨y3, hy3⟩ : ∃ y, y = k / 3 := ⟨_, rfl⟩
    obtain ⟨y6, hy6⟩ : ∃ y, y = (k - 1) / 2 := ⟨_, rfl⟩
    have b3 : 0 ≤ y3 ∧ y3 ≤ 8 := by omega
    have b6 : 0 ≤ y6 ∧ y6 ≤ 12 := by omega
    rw [← hy3] at hx3
    rw [← hy6] at hx6
    have z3 : k / 3 = y3 := hy3.symm
    have z6 : (k - 1) / 2 = y6 := hy6.symm
    have k0 : 0 ≤ k - 1 := by omega
    have k00 : 0 ≤ k - 2 := by omega
    obtain ⟨b31, b32⟩ := b3
    obtain ⟨b61, b62⟩ := b6
    clear hy3 hy6
    go_enter Try.func64, Try.ntmps64
    go_wp2
    go_ret
    exact ⟨ret_int' HV.out, HB0.out⟩
set_option maxHeartbeats 3200000 in
set_option maxRecDepth 1000000 in
theorem rcs_any (ix gn n2 n3 cu ir : Int) (mi : Bool) (k : Int) (w : World) (h : SgOk ix gn n2 n3 cu ir mi) (k1 : 2 ≤ k) (k2 : k ≤ 24) (hm : k % 2 = 0 ∨ mi = false) :
    Calls Try.prog 32 #[.agg #[.int .i64 ix, .int .i64 gn, .int .i64 n2, .int .i64 n3, .int .i64 cu, .int .i64 ir, .bool mi], .int .i64 k] w fun e w' => e = .returned (.int .i64 (scV gn n2 n3 cu ir k)) ∧ Below w.heap.size w w' := by
  have T0 : Hid ((w.alloc (.cells #[.int .i64 ix, .int .i64 gn, .int .i64 n2, .int .i64 n3, .int .i64 cu, .int .i64 ir, .bool mi] 32)).heap[w.heap.size]? = some (.cells #[.int .i64 ix, .int .i64 gn, .int .i64 n2, .int .i64 n3, .int .i64 cu, .int .i64 ir, .bool mi] 32 (0, 0))) := heap_alloc_new w _
  have HB0 : Hid (Below w.heap.size w (w.alloc (.cells #[.int .i64 ix, .int .i64 gn, .int .i64 n2, .int .i64 n3, .int .i64 cu, .int .i64 ir, .bool mi] 32))) := below1 w _
  obtain ⟨⟨c0, c1, c2, c3, c4, c5, c6⟩, _⟩ := seven_of_block T0.out
  obtain ⟨g1, g2⟩ := h.fgn
  obtain ⟨p1, p2⟩ := h.fn2
  obtain ⟨q1, q2⟩ := h.fn3
  obtain ⟨r1, r2⟩ := h.fcu
  obtain ⟨s1, s2⟩ := h.fir
  have hbd := scV_bd h k1 k2
  by_cases h1 : k = 2
  · rw [show scV gn n2 n3 cu ir k = gn by unfold scV; rw [if_pos h1]]
    subst h1
    go_enter Try.func32, Try.ntmps32
    go_wp2
    go_ret
    exact ⟨rfl, HB0.out⟩
  have f1 : (k == 2) = false := by rw [beq_eq_false_iff_ne]; exact h1
  have m1 := mul_bdS (a := k - 1) (b := gn - 1) (by omega) (by omega) (by omega) (by omega)
  have m3 := mul_bdS (a := k / 3) (b := n3) (by omega) (by omega) (by omega) (by omega)
  by_cases h2 : k % 2 = 0
  · have m2 := mul_bdS (a := k / 4) (b := n2) (by omega) (by omega) (by omega) (by omega)
    have m4 := mul_bdS (a := k / 2 - 1) (b := cu) (by omega) (by omega) (by omega) (by omega)
    have HV : Hid ((k - 1) * (gn - 1) + k / 4 * n2 + k / 3 * n3 + (k / 2 - 1) * cu = scV gn n2 n3 cu ir k) := by show _ = _; unfold scV; rw [if_neg h1, if_pos h2]
    have f2 : (k % 2 == 0) = true := by rw [beq_iff_eq]; exact h2
    have v1 : 1 ≤ k / 2 := by omega
    have v2 : k / 2 ≤ 12 := by omega
    clear h1 h2 hbd h hm
    generalize scV gn n2 n3 cu ir k = V at *
    generalize hx1 : (k - 1) * (gn - 1) = x1 at *
    generalize hx2 : k / 4 * n2 = x2 at *
    generalize hx3 : k / 3 * n3 = x3 at *
    generalize hx4 : (k / 2 - 1) * cu = x4 at *
    obtain ⟨m11, m12⟩ := m1
    obtain ⟨m21, m22⟩ := m2
    obtain ⟨m31, m32⟩ := m3
    obtain ⟨m41, m42⟩ := m4
    obtain ⟨y4, hy4⟩ : ∃ y, y = k / 4 := ⟨_, rfl⟩
    obtain ⟨y3, hy3⟩ : ∃ y, y = k / 3 := ⟨_, rfl⟩
    obtain ⟨y2, hy2⟩ : ∃ y, y = k / 2 := ⟨_, rfl⟩
    have b4 : 0 ≤ y4 ∧ y4 ≤ 6 := by omega
    have b3 : 0 ≤ y3 ∧ y3 ≤ 8 := by omega
    rw [← hy4] at hx2
    rw [← hy3] at hx3
    rw [← hy2] at hx4 v1 v2
    have z4 : k / 4 = y4 := hy4.symm
    have z3 : k / 3 = y3 := hy3.symm
    have z2 : k / 2 = y2 := hy2.symm
    obtain ⟨b41, b42⟩ := b4
    obtain ⟨b31, b32⟩ := b3
    clear hy4 hy3 hy2
    go_enter Try.func32, Try.ntmps32
    go_wp2
    go_ret
    exact ⟨ret_int' HV.out, HB0.out⟩
  · have hmi : mi = false := by rcases hm with h3 | h3; (exact absurd h3 h2); exact h3
    have hev := h.fev hmi
    subst hmi
    have m5 := mul_bdS (a := k - 2) (b := (cu - ir) / 2) (by omega) (by omega) (by omega) (by omega)
    have m6 := mul_bdS (a := (k - 1) / 2) (b := ir) (by omega) (by omega) (by omega) (by omega)
    have HV : Hid ((k - 1) * (gn - 1) + k / 3 * n3 + (k - 2) * ((cu - ir) / 2) + (k - 1) / 2 * ir = scV gn n2 n3 cu ir k) := by show _ = _; unfold scV; rw [if_neg h1, if_neg h2]
    have f2 : (k % 2 == 0) = false := by rw [beq_eq_false_iff_ne]; exact h2
    have hc1 : 0 ≤ cu - ir := by omega
    have hc2 : cu - ir ≤ 10000 := by omega
    have hq1 : 0 ≤ (cu - ir) / 2 := by omega
    have hq2 : (cu - ir) / 2 ≤ 5000 := by omega
    clear h1 h2 hbd h hev hm
    generalize hx5 : (k - 2) * ((cu - ir) / 2) = x5 at *
    generalize scV gn n2 n3 cu ir k = V at *
    generalize hx1 : (k - 1) * (gn - 1) = x1 at *
    generalize hx3 : k / 3 * n3 = x3 at *
    generalize hx6 : (k - 1) / 2 * ir = x6 at *
    obtain ⟨m11, m12⟩ := m1
    obtain ⟨m31, m32⟩ := m3
    obtain ⟨m51, m52⟩ := m5
    obtain ⟨m61, m62⟩ := m6
    obtain ⟨y3, hy3⟩ : ∃ y, y = k / 3 := ⟨_, rfl⟩
    obtain ⟨y6, hy6⟩ : ∃ y, y = (k - 1) / 2 := ⟨_, rfl⟩
    have b3 : 0 ≤ y3 ∧ y3 ≤ 8 := by omega
    have b6 : 0 ≤ y6 ∧ y6 ≤ 12 := by omega
    rw [← hy3] at hx3
    rw [← hy6] at hx6
    have z3 : k / 3 = y3 := hy3.symm
    have z6 : (k - 1) / 2 = y6 := hy6.symm
    have k0 : 0 ≤ k - 1 := by omega
    have k00 : 0 ≤ k - 2 := by omega
    obtain ⟨b31, b32⟩ := b3
    obtain ⟨b61, b62⟩ := b6
    clear hy3 hy6
    go_enter Try.func32, Try.ntmps32
    go_wp2
    go_ret
    exact ⟨ret_int' HV.out, HB0.out⟩
set_option maxHeartbeats 3200000 in
set_option maxRecDepth 1000000 in
theorem es_any (ix gn n2 n3 cu ir : Int) (mi : Bool) (k : Int) (w : World) (h : SgOk ix gn n2 n3 cu ir mi) (k1 : 2 ≤ k) (k2 : k ≤ 24) :
    Calls Try.prog 65 #[.agg #[.int .i64 ix, .int .i64 gn, .int .i64 n2, .int .i64 n3, .int .i64 cu, .int .i64 ir, .bool mi], .int .i64 k] w fun e w' => e = .returned (.int .i64 (seV cu ir k)) ∧ Below w.heap.size w w' := by
  have T0 : Hid ((w.alloc (.cells #[.int .i64 ix, .int .i64 gn, .int .i64 n2, .int .i64 n3, .int .i64 cu, .int .i64 ir, .bool mi] 32)).heap[w.heap.size]? = some (.cells #[.int .i64 ix, .int .i64 gn, .int .i64 n2, .int .i64 n3, .int .i64 cu, .int .i64 ir, .bool mi] 32 (0, 0))) := heap_alloc_new w _
  have HB0 : Hid (Below w.heap.size w (w.alloc (.cells #[.int .i64 ix, .int .i64 gn, .int .i64 n2, .int .i64 n3, .int .i64 cu, .int .i64 ir, .bool mi] 32))) := below1 w _
  obtain ⟨⟨c0, c1, c2, c3, c4, c5, c6⟩, _⟩ := seven_of_block T0.out
  obtain ⟨r1, r2⟩ := h.fcu
  obtain ⟨s1, s2⟩ := h.fir
  clear h
  by_cases h1 : k = 2
  · rw [show seV cu ir k = cu - 1 by unfold seV; rw [if_pos h1]]
    subst h1
    go_enter Try.func65, Try.ntmps65
    go_wp2
    go_ret
    exact ⟨rfl, HB0.out⟩
  have f1 : (k == 2) = false := by rw [beq_eq_false_iff_ne]; exact h1
  by_cases h2 : k % 2 = 0
  · rw [show seV cu ir k = cu by unfold seV; rw [if_neg h1, if_pos h2]]
    have f2 : (k % 2 == 0) = true := by rw [beq_iff_eq]; exact h2
    clear h1 h2
    go_enter Try.func65, Try.ntmps65
    go_wp2
    go_ret
    exact ⟨rfl, HB0.out⟩
  · rw [show seV cu ir k = cu - ir by unfold seV; rw [if_neg h1, if_neg h2]]
    have f2 : (k % 2 == 0) = false := by rw [beq_eq_false_iff_ne]; exact h2
    clear h1 h2
    go_enter Try.func65, Try.ntmps65
    go_wp2
    go_ret
    exact ⟨rfl, HB0.out⟩
theorem cksV_ok {ix gn n2 n3 cu ir k : Int} {mi : Bool} (h : cksV ix gn n2 n3 cu ir mi k = 0) : (2 ≤ k ∧ k ≤ 24) ∧ SgOk ix gn n2 n3 cu ir mi ∧ (k % 2 = 0 ∨ mi = false) := by
  unfold cksV at h
  split at h
  · cases h
  split at h
  · cases h
  split at h
  · cases h
  · rename_i h1 h2 h3
    refine ⟨by omega, sg_ok (by simpa using h2), ?_⟩
    by_cases h4 : k % 2 = 1
    · right
      rw [decide_eq_true h4] at h3
      simpa using h3
    · left; omega
theorem seV_bd {ix gn n2 n3 cu ir k : Int} {mi : Bool} (h : SgOk ix gn n2 n3 cu ir mi) : -1 ≤ seV cu ir k ∧ seV cu ir k ≤ 10000 := by
  have := h.fcu
  have := h.fir
  unfold seV
  split
  · omega
  · split <;> omega
set_option maxHeartbeats 3200000 in
set_option maxRecDepth 1000000 in
theorem csig_ok (ix gn n2 n3 cu ir : Int) (mi : Bool) (k : Int) (w : World) (h : cksV ix gn n2 n3 cu ir mi k = 0) :
    Calls Try.prog 29 #[.agg #[.int .i64 ix, .int .i64 gn, .int .i64 n2, .int .i64 n3, .int .i64 cu, .int .i64 ir, .bool mi], .int .i64 k] w fun e w' => e = .returned (.tuple #[.int .i64 (scV gn n2 n3 cu ir k), .int .i64 0]) ∧ Below w.heap.size w w' := by
  have T0 : Hid ((w.alloc (.cells #[.int .i64 ix, .int .i64 gn, .int .i64 n2, .int .i64 n3, .int .i64 cu, .int .i64 ir, .bool mi] 32)).heap[w.heap.size]? = some (.cells #[.int .i64 ix, .int .i64 gn, .int .i64 n2, .int .i64 n3, .int .i64 cu, .int .i64 ir, .bool mi] 32 (0, 0))) := heap_alloc_new w _
  have HB0 : Hid (Below w.heap.size w (w.alloc (.cells #[.int .i64 ix, .int .i64 gn, .int .i64 n2, .int .i64 n3, .int .i64 cu, .int .i64 ir, .bool mi] 32))) := below1 w _
  obtain ⟨⟨c0, c1, c2, c3, c4, c5, c6⟩, _⟩ := seven_of_block T0.out
  have HC := Lib.hid (fun V => cksig_any ix gn n2 n3 cu ir mi k V)
  obtain ⟨⟨k1, k2⟩, hs, hm⟩ := cksV_ok h
  have HV := Lib.hid (fun V => cs_any ix gn n2 n3 cu ir mi k V hs k1 k2 hm)
  rw [h] at HC
  clear h hs hm
  generalize scV gn n2 n3 cu ir k = x at *
  go_enter Try.func29, Try.ntmps29
  go_wp2_with (first
    | (go_at_call 63; ((with_reducible refine (HC.out _).mono ?_); rintro e v2 ⟨rfl, hb⟩; have HB2 := Lib.hid (bel0 HB0.out hb); have T2 := Lib.hid (block_below T0.out hb); clear c0 c1 c2 c3 c4 c5 c6; obtain ⟨⟨c0, c1, c2, c3, c4, c5, c6⟩, _⟩ := seven_of_block T2.out; clear hb))
    | (go_at_call 64; ((with_reducible refine (HV.out _).mono ?_); rintro e v3 ⟨rfl, hb⟩; have HB3 := Lib.hid (bel0 HB2.out hb); clear hb))
    | fail)
  refine bodyPost_ret (v := .tuple #[.int .i64 x, .int .i64 0]) ?_ rfl ⟨rfl, HB3.out⟩
  simp [results, Try.results29, go_sem, *]
set_option maxHeartbeats 3200000 in
set_option maxRecDepth 1000000 in
theorem msig_ok (ix gn n2 n3 cu ir : Int) (mi : Bool) (k : Int) (w : World) (h : cksV ix gn n2 n3 cu ir mi k = 0) :
    Calls Try.prog 30 #[.agg #[.int .i64 ix, .int .i64 gn, .int .i64 n2, .int .i64 n3, .int .i64 cu, .int .i64 ir, .bool mi], .int .i64 k] w fun e w' => e = .returned (.tuple #[.int .i64 (scV gn n2 n3 cu ir k + seV cu ir k), .int .i64 0]) ∧ Below w.heap.size w w' := by
  have T0 : Hid ((w.alloc (.cells #[.int .i64 ix, .int .i64 gn, .int .i64 n2, .int .i64 n3, .int .i64 cu, .int .i64 ir, .bool mi] 32)).heap[w.heap.size]? = some (.cells #[.int .i64 ix, .int .i64 gn, .int .i64 n2, .int .i64 n3, .int .i64 cu, .int .i64 ir, .bool mi] 32 (0, 0))) := heap_alloc_new w _
  have HB0 : Hid (Below w.heap.size w (w.alloc (.cells #[.int .i64 ix, .int .i64 gn, .int .i64 n2, .int .i64 n3, .int .i64 cu, .int .i64 ir, .bool mi] 32))) := below1 w _
  obtain ⟨⟨c0, c1, c2, c3, c4, c5, c6⟩, _⟩ := seven_of_block T0.out
  have HC := Lib.hid (fun V => cksig_any ix gn n2 n3 cu ir mi k V)
  obtain ⟨⟨k1, k2⟩, hs, hm⟩ := cksV_ok h
  have HV := Lib.hid (fun V => cs_any ix gn n2 n3 cu ir mi k V hs k1 k2 hm)
  have HE := Lib.hid (fun V => es_any ix gn n2 n3 cu ir mi k V hs k1 k2)
  have b1 := scV_bd hs k1 k2
  have b2 := seV_bd (k := k) hs
  rw [h] at HC
  clear h hs hm
  generalize scV gn n2 n3 cu ir k = x at *
  generalize seV cu ir k = y at *
  have wxy : IntKind.i64.wrap (x + y) = x + y := IntWalk.i64_in _ (by omega)
  have SGC : Hid (∀ W : World, W.heap[w.heap.size]? = some (.cells #[.int .i64 ix, .int .i64 gn, .int .i64 n2, .int .i64 n3, .int .i64 cu, .int .i64 ir, .bool mi] 32 (0, 0)) → (W.cell? ⟨w.heap.size, 0, none⟩ = some (.int .i64 ix) ∧ W.cell? ⟨w.heap.size, 1, none⟩ = some (.int .i64 gn) ∧ W.cell? ⟨w.heap.size, 2, none⟩ = some (.int .i64 n2) ∧ W.cell? ⟨w.heap.size, 3, none⟩ = some (.int .i64 n3) ∧ W.cell? ⟨w.heap.size, 4, none⟩ = some (.int .i64 cu) ∧ W.cell? ⟨w.heap.size, 5, none⟩ = some (.int .i64 ir) ∧ W.cell? ⟨w.heap.size, 6, none⟩ = some (.bool mi))) := fun W hW => (seven_of_block hW).1
  go_enter Try.func30, Try.ntmps30
  go_upto_region 4 with (first
    | (go_at_call 63; ((with_reducible refine (HC.out _).mono ?_); rintro e v2 ⟨rfl, hb⟩; have HB2 := Lib.hid (bel0 HB0.out hb).drew; have T2 : Hid (v2.drew.heap[w.heap.size]? = some (.cells #[.int .i64 ix, .int .i64 gn, .int .i64 n2, .int .i64 n3, .int .i64 cu, .int .i64 ir, .bool mi] 32 (0, 0))) := block_below T0.out hb.drew; clear c0 c1 c2 c3 c4 c5 c6; clear hb))
    | fail)
  go_region_held3 (fun w' => w'.cell? ⟨w.heap.size, 0, none⟩ = some (.int .i64 ix) ∧ w'.cell? ⟨w.heap.size, 1, none⟩ = some (.int .i64 gn) ∧ w'.cell? ⟨w.heap.size, 2, none⟩ = some (.int .i64 n2) ∧ w'.cell? ⟨w.heap.size, 3, none⟩ = some (.int .i64 n3) ∧ w'.cell? ⟨w.heap.size, 4, none⟩ = some (.int .i64 cu) ∧ w'.cell? ⟨w.heap.size, 5, none⟩ = some (.int .i64 ir) ∧ w'.cell? ⟨w.heap.size, 6, none⟩ = some (.bool mi))
    (with_reducible first | exact SGC.out _ T4.out | exact SGC.out _ T3.out | exact SGC.out _ T2.out | fail)
    (first
      | (go_at_call 64; ((with_reducible refine (HV.out _).mono ?_); rintro e v3 ⟨rfl, hb⟩; have HB3 := Lib.hid (bel0 HB2.out hb); have T3 := Lib.hid (block_below T2.out hb); clear hb))
      | (go_at_call 65; ((with_reducible refine (HE.out _).mono ?_); rintro e v4 ⟨rfl, hb⟩; have HB4 := Lib.hid (bel0 HB3.out hb); have T4 := Lib.hid (block_below T3.out hb); clear hb))
      | fail)
  go_wp2
  refine bodyPost_ret (v := .tuple #[.int .i64 (x + y), .int .i64 0]) ?_ rfl ⟨rfl, HB4.out⟩
  simp [results, Try.results30, go_sem, *]
set_option maxHeartbeats 1600000 in
theorem csig_bad (ix gn n2 n3 cu ir : Int) (mi : Bool) (k : Int) (w : World) (h : cksV ix gn n2 n3 cu ir mi k ≠ 0) :
    Calls Try.prog 29 #[.agg #[.int .i64 ix, .int .i64 gn, .int .i64 n2, .int .i64 n3, .int .i64 cu, .int .i64 ir, .bool mi], .int .i64 k] w fun e w' => e = .returned (.tuple #[.int .i64 0, .int .i64 (cksV ix gn n2 n3 cu ir mi k)]) ∧ Below w.heap.size w w' := by
  have T0 : Hid ((w.alloc (.cells #[.int .i64 ix, .int .i64 gn, .int .i64 n2, .int .i64 n3, .int .i64 cu, .int .i64 ir, .bool mi] 32)).heap[w.heap.size]? = some (.cells #[.int .i64 ix, .int .i64 gn, .int .i64 n2, .int .i64 n3, .int .i64 cu, .int .i64 ir, .bool mi] 32 (0, 0))) := heap_alloc_new w _
  have HB0 : Hid (Below w.heap.size w (w.alloc (.cells #[.int .i64 ix, .int .i64 gn, .int .i64 n2, .int .i64 n3, .int .i64 cu, .int .i64 ir, .bool mi] 32))) := below1 w _
  obtain ⟨⟨c0, c1, c2, c3, c4, c5, c6⟩, _⟩ := seven_of_block T0.out
  have HC := Lib.hid (fun V => cksig_any ix gn n2 n3 cu ir mi k V)
  have hk1 : (cksV ix gn n2 n3 cu ir mi k != 0) = true := by rw [bne_iff_ne]; exact h
  clear h
  generalize cksV ix gn n2 n3 cu ir mi k = z at *
  go_enter Try.func29, Try.ntmps29
  go_wp2_with (first
    | (go_at_call 63; ((with_reducible refine (HC.out _).mono ?_); rintro e v2 ⟨rfl, hb⟩; have HB2 := Lib.hid (bel0 HB0.out hb); clear hb))
    | fail)
  refine bodyPost_ret (v := .tuple #[.int .i64 0, .int .i64 z]) ?_ rfl ⟨rfl, HB2.out⟩
  simp [results, Try.results29, go_sem, *]
set_option maxHeartbeats 1600000 in
theorem msig_bad (ix gn n2 n3 cu ir : Int) (mi : Bool) (k : Int) (w : World) (h : cksV ix gn n2 n3 cu ir mi k ≠ 0) :
    Calls Try.prog 30 #[.agg #[.int .i64 ix, .int .i64 gn, .int .i64 n2, .int .i64 n3, .int .i64 cu, .int .i64 ir, .bool mi], .int .i64 k] w fun e w' => e = .returned (.tuple #[.int .i64 0, .int .i64 (cksV ix gn n2 n3 cu ir mi k)]) ∧ Below w.heap.size w w' := by
  have T0 : Hid ((w.alloc (.cells #[.int .i64 ix, .int .i64 gn, .int .i64 n2, .int .i64 n3, .int .i64 cu, .int .i64 ir, .bool mi] 32)).heap[w.heap.size]? = some (.cells #[.int .i64 ix, .int .i64 gn, .int .i64 n2, .int .i64 n3, .int .i64 cu, .int .i64 ir, .bool mi] 32 (0, 0))) := heap_alloc_new w _
  have HB0 : Hid (Below w.heap.size w (w.alloc (.cells #[.int .i64 ix, .int .i64 gn, .int .i64 n2, .int .i64 n3, .int .i64 cu, .int .i64 ir, .bool mi] 32))) := below1 w _
  obtain ⟨⟨c0, c1, c2, c3, c4, c5, c6⟩, _⟩ := seven_of_block T0.out
  have HC := Lib.hid (fun V => cksig_any ix gn n2 n3 cu ir mi k V)
  have hk1 : (cksV ix gn n2 n3 cu ir mi k != 0) = true := by rw [bne_iff_ne]; exact h
  clear h
  generalize cksV ix gn n2 n3 cu ir mi k = z at *
  go_enter Try.func30, Try.ntmps30
  go_wp2_with (first
    | (go_at_call 63; ((with_reducible refine (HC.out _).mono ?_); rintro e v2 ⟨rfl, hb⟩; have HB2 := Lib.hid (bel0 HB0.out hb); clear hb))
    | fail)
  refine bodyPost_ret (v := .tuple #[.int .i64 0, .int .i64 z]) ?_ rfl ⟨rfl, HB2.out⟩
  simp [results, Try.results30, go_sem, *]
end Go.Proofs.Ytaofkfphkkfbnaa
namespace Go.Proofs.Ytaofkfphkkfbnaa
open Go.RowKit
set_option linter.unusedVariables false
set_option linter.unusedSimpArgs false

set_option maxRecDepth 100000 in
theorem aw1 : ckV ((23 : Nat) : Int) ((3 : Nat) : Int) (-23) = 0 ∧ cpV 23 3 (-23) = 3 := by decide +kernel
set_option maxRecDepth 100000 in
theorem aw2 : ckV ((22 : Nat) : Int) ((2 : Nat) : Int) 1 = 0 ∧ nwV 22 2 1 = 0 := by decide +kernel
set_option maxRecDepth 100000 in
theorem aw3 : ckV 11 2 1 = 0 ∧ (2 * (psV (Int.toNat 11) : Int)) / 12 = 2 := by decide +kernel
theorem aw4 : cksV 6 0 0 0 3 1 false 3 = 0 ∧ scV 0 0 0 3 1 3 + seV 3 1 3 = 2 := by decide +kernel
set_option maxHeartbeats 3200000 in
set_option maxRecDepth 1000000 in
theorem awake_any (w : World) : Calls Try.prog 11 #[] w fun e w' => e = .returned (.bool true) ∧ Below w.heap.size w w' := by
  have H1 : Hid (∀ V, Calls Try.prog 16 #[.agg #[.int .i64 23, .int .i64 3, .int .i64 (-23)]] V fun e w' => e = .returned (.tuple #[.int .i64 3, .int .i64 0]) ∧ Below V.heap.size V w') := fun V => by
    have := cusp_ok 23 3 (-23) V aw1.1
    rw [aw1.2] at this
    exact this
  have H2 : Hid (∀ V, Calls Try.prog 19 #[.agg #[.int .i64 22, .int .i64 2, .int .i64 1]] V fun e w' => e = .returned (.tuple #[.int .i64 0, .int .i64 0]) ∧ Below V.heap.size V w') := fun V => by
    have := new_ok 22 2 1 V aw2.1
    rw [aw2.2] at this
    exact this
  have H3 : Hid (∀ V, Calls Try.prog 13 #[.agg #[.int .i64 11, .int .i64 2, .int .i64 1]] V fun e w' => e = .returned (.tuple #[.int .i64 2, .int .i64 0]) ∧ Below V.heap.size V w') := fun V => by
    have := sturm_any 11 2 1 V
    rw [aw3.1, if_pos rfl, aw3.2] at this
    exact this
  have H4 : Hid (∀ V, Calls Try.prog 30 #[.agg #[.int .i64 6, .int .i64 0, .int .i64 0, .int .i64 0, .int .i64 3, .int .i64 1, .bool false], .int .i64 3] V fun e w' => e = .returned (.tuple #[.int .i64 2, .int .i64 0]) ∧ Below V.heap.size V w') := fun V => by
    have := msig_ok 6 0 0 0 3 1 false 3 V aw4.1
    rw [aw4.2] at this
    exact this
  go_enter Try.func11, Try.ntmps11
  go_wp2_with (first
    | (go_at_call 16; ((with_reducible refine (H1.out _).mono ?_); rintro e v1 ⟨rfl, hb⟩; have HB1 := Lib.hid hb; clear hb))
    | (go_at_call 19; ((with_reducible refine (H2.out _).mono ?_); rintro e v2 ⟨rfl, hb⟩; have HB2 := Lib.hid (bel0 HB1.out hb); clear hb))
    | (go_at_call 13; ((with_reducible refine (H3.out _).mono ?_); rintro e v3 ⟨rfl, hb⟩; have HB3 := Lib.hid (bel0 HB2.out hb); clear hb))
    | (go_at_call 30; ((with_reducible refine (H4.out _).mono ?_); rintro e v4 ⟨rfl, hb⟩; have HB4 := Lib.hid (bel0 HB3.out hb); clear hb))
    | fail)
  go_ret
  exact ⟨rfl, HB4.out⟩
set_option maxHeartbeats 3200000 in
set_option maxRecDepth 1000000 in
theorem dck_walk (N W D : Int) (w : World) : Calls Try.prog 3 #[.agg #[.int .i64 N, .int .i64 W, .int .i64 D]] w fun e w' => e = .returned (.bool true) ∧ Below w.heap.size w w' := by
  have T0 : Hid ((w.alloc (.cells #[.int .i64 N, .int .i64 W, .int .i64 D] 23)).heap[w.heap.size]? = some (.cells #[.int .i64 N, .int .i64 W, .int .i64 D] 23 (0, 0))) := heap_alloc_new w _
  have HB0 : Hid (Below w.heap.size w (w.alloc (.cells #[.int .i64 N, .int .i64 W, .int .i64 D] 23))) := below1 w _
  obtain ⟨⟨c0, c1, c2⟩, _⟩ := three_of_blockD T0.out
  have HA := Lib.hid awake_any
  have HR := Lib.hid (fun V => rcheck_any N W D V)
  have HS := Lib.hid (fun V => sturm_any N W D V)
  have HC := Lib.hid (fun V => check_any N W D V)
  by_cases h : ckV N W D = 0
  · obtain ⟨⟨n1, n2⟩, ⟨w1, w2⟩, _⟩ := ckV_ok h
    rw [if_pos h] at HS
    rw [h] at HR HS HC
    have HT : Hid (∀ V, Calls Try.prog 15 #[.agg #[.int .i64 N, .int .i64 W, .int .i64 D]] V fun e w' => e = .returned (.int .i64 ((W * (psV N.toNat : Int)) / 12)) ∧ Below V.heap.size V w') := fun V => by
      have := rsturm_any N.toNat W D V (by omega) (by omega) w1 w2
      rwa [show ((N.toNat : Nat) : Int) = N by omega] at this
    clear h
    generalize (W * (psV N.toNat : Int)) / 12 = z at *
    go_enter Try.func3, Try.ntmps3
    go_wp2_with (first
      | (go_at_call 11; ((with_reducible refine (HA.out _).mono ?_); rintro e v1 ⟨rfl, hb⟩; have HB1 := Lib.hid (bel0 HB0.out hb); have T1 := Lib.hid (block_below T0.out hb); clear c0 c1 c2; obtain ⟨⟨c0, c1, c2⟩, _⟩ := three_of_blockD T1.out; clear hb))
      | (go_at_call 12; ((with_reducible refine (HR.out _).mono ?_); rintro e v2 ⟨rfl, hb⟩; have HB2 := Lib.hid (bel0 HB1.out hb); have T2 := Lib.hid (block_below T1.out hb); clear c0 c1 c2; obtain ⟨⟨c0, c1, c2⟩, _⟩ := three_of_blockD T2.out; clear hb))
      | (go_at_call 13; ((with_reducible refine (HS.out _).mono ?_); rintro e v3 ⟨rfl, hb⟩; have HB3 := Lib.hid (bel0 HB2.out hb); have T3 := Lib.hid (block_below T2.out hb); clear c0 c1 c2; obtain ⟨⟨c0, c1, c2⟩, _⟩ := three_of_blockD T3.out; clear hb))
      | (go_at_call 14; ((with_reducible refine (HC.out _).mono ?_); rintro e v4 ⟨rfl, hb⟩; have HB4 := Lib.hid (bel0 HB3.out hb); have T4 := Lib.hid (block_below T3.out hb); clear c0 c1 c2; obtain ⟨⟨c0, c1, c2⟩, _⟩ := three_of_blockD T4.out; clear hb))
      | (go_at_call 15; ((with_reducible refine (HT.out _).mono ?_); rintro e v5 ⟨rfl, hb⟩; have HB5 := Lib.hid (bel0 HB4.out hb); have T5 := Lib.hid (block_below T4.out hb); clear c0 c1 c2; obtain ⟨⟨c0, c1, c2⟩, _⟩ := three_of_blockD T5.out; clear hb))
      | fail)
    go_ret
    exact ⟨rfl, HB5.out⟩
  · rw [if_neg h] at HS
    have hk1 : (ckV N W D != 0) = true := by rw [bne_iff_ne]; exact h
    clear h
    generalize ckV N W D = k at *
    go_enter Try.func3, Try.ntmps3
    go_wp2_with (first
      | (go_at_call 11; ((with_reducible refine (HA.out _).mono ?_); rintro e v1 ⟨rfl, hb⟩; have HB1 := Lib.hid (bel0 HB0.out hb); have T1 := Lib.hid (block_below T0.out hb); clear c0 c1 c2; obtain ⟨⟨c0, c1, c2⟩, _⟩ := three_of_blockD T1.out; clear hb))
      | (go_at_call 12; ((with_reducible refine (HR.out _).mono ?_); rintro e v2 ⟨rfl, hb⟩; have HB2 := Lib.hid (bel0 HB1.out hb); have T2 := Lib.hid (block_below T1.out hb); clear c0 c1 c2; obtain ⟨⟨c0, c1, c2⟩, _⟩ := three_of_blockD T2.out; clear hb))
      | (go_at_call 13; ((with_reducible refine (HS.out _).mono ?_); rintro e v3 ⟨rfl, hb⟩; have HB3 := Lib.hid (bel0 HB2.out hb); have T3 := Lib.hid (block_below T2.out hb); clear c0 c1 c2; obtain ⟨⟨c0, c1, c2⟩, _⟩ := three_of_blockD T3.out; clear hb))
      | (go_at_call 14; ((with_reducible refine (HC.out _).mono ?_); rintro e v4 ⟨rfl, hb⟩; have HB4 := Lib.hid (bel0 HB3.out hb); have T4 := Lib.hid (block_below T3.out hb); clear c0 c1 c2; obtain ⟨⟨c0, c1, c2⟩, _⟩ := three_of_blockD T4.out; clear hb))
      | fail)
    go_ret
    exact ⟨rfl, HB4.out⟩
set_option maxHeartbeats 6400000 in
set_option maxRecDepth 1000000 in
theorem dsp_walk (N W D : Int) (w : World) : Calls Try.prog 4 #[.agg #[.int .i64 N, .int .i64 W, .int .i64 D]] w fun e w' => e = .returned (.bool true) ∧ Below w.heap.size w w' := by
  have HA := Lib.hid awake_any
  have HR := Lib.hid (fun V => rcheck_any N W D V)
  by_cases h : ckV N W D = 0
  · obtain ⟨⟨n1, n2⟩, ⟨w1, w2⟩, _⟩ := ckV_ok h
    obtain ⟨n, rfl⟩ : ∃ n : Nat, N = n := ⟨N.toNat, by omega⟩
    obtain ⟨k, rfl⟩ : ∃ k : Nat, W = k := ⟨W.toNat, by omega⟩
    have hl := ckV_ld h
    have H1 := Lib.hid (fun V => cusp_ok n k D V h)
    have H2 := Lib.hid (fun V => eis_ok n k D V h)
    have H3 := Lib.hid (fun V => mod_ok n k D V h)
    have H4 := Lib.hid (fun V => new_ok n k D V h)
    have R1 := Lib.hid (fun V => rcusp_any n k D V hl w1 w2)
    have R2 := Lib.hid (fun V => reis_any n k D V hl w1 w2)
    have R4 := Lib.hid (fun V => rnew_any n k D V hl w1 w2)
    have b1 := cp_bd (k := k) hl (by omega) (by omega)
    have b2 := ei_bd (k := k) hl
    rw [h] at HR
    clear h hl
    generalize cpV n k D = a at *
    generalize eiV n k D = b at *
    generalize nwV n k D = d at *
    have T0 : Hid ((w.alloc (.cells #[.int .i64 (n : Int), .int .i64 (k : Int), .int .i64 D] 23)).heap[w.heap.size]? = some (.cells #[.int .i64 (n : Int), .int .i64 (k : Int), .int .i64 D] 23 (0, 0))) := heap_alloc_new w _
    have HB0 : Hid (Below w.heap.size w (w.alloc (.cells #[.int .i64 (n : Int), .int .i64 (k : Int), .int .i64 D] 23))) := below1 w _
    obtain ⟨⟨c0, c1, c2⟩, _⟩ := three_of_blockD T0.out
    go_enter Try.func4, Try.ntmps4
    go_wp2_with (first
      | (go_at_call 11; ((with_reducible refine (HA.out _).mono ?_); rintro e v1 ⟨rfl, hb⟩; have HB1 := Lib.hid (bel0 HB0.out hb); have T1 := Lib.hid (block_below T0.out hb); clear c0 c1 c2; obtain ⟨⟨c0, c1, c2⟩, _⟩ := three_of_blockD T1.out; clear hb))
      | (go_at_call 16; ((with_reducible refine (H1.out _).mono ?_); rintro e v2 ⟨rfl, hb⟩; have HB2 := Lib.hid (bel0 HB1.out hb); have T2 := Lib.hid (block_below T1.out hb); clear c0 c1 c2; obtain ⟨⟨c0, c1, c2⟩, _⟩ := three_of_blockD T2.out; clear hb))
      | (go_at_call 17; ((with_reducible refine (H2.out _).mono ?_); rintro e v3 ⟨rfl, hb⟩; have HB3 := Lib.hid (bel0 HB2.out hb); have T3 := Lib.hid (block_below T2.out hb); clear c0 c1 c2; obtain ⟨⟨c0, c1, c2⟩, _⟩ := three_of_blockD T3.out; clear hb))
      | (go_at_call 18; ((with_reducible refine (H3.out _).mono ?_); rintro e v4 ⟨rfl, hb⟩; have HB4 := Lib.hid (bel0 HB3.out hb); have T4 := Lib.hid (block_below T3.out hb); clear c0 c1 c2; obtain ⟨⟨c0, c1, c2⟩, _⟩ := three_of_blockD T4.out; clear hb))
      | (go_at_call 19; ((with_reducible refine (H4.out _).mono ?_); rintro e v5 ⟨rfl, hb⟩; have HB5 := Lib.hid (bel0 HB4.out hb); have T5 := Lib.hid (block_below T4.out hb); clear c0 c1 c2; obtain ⟨⟨c0, c1, c2⟩, _⟩ := three_of_blockD T5.out; clear hb))
      | (go_at_call 12; ((with_reducible refine (HR.out _).mono ?_); rintro e v6 ⟨rfl, hb⟩; have HB6 := Lib.hid (bel0 HB5.out hb); have T6 := Lib.hid (block_below T5.out hb); clear c0 c1 c2; obtain ⟨⟨c0, c1, c2⟩, _⟩ := three_of_blockD T6.out; clear hb))
      | (go_at_call 20; ((with_reducible refine (R1.out _).mono ?_); rintro e v7 ⟨rfl, hb⟩; have HB7 := Lib.hid (bel0 HB6.out hb); have T7 := Lib.hid (block_below T6.out hb); clear c0 c1 c2; obtain ⟨⟨c0, c1, c2⟩, _⟩ := three_of_blockD T7.out; clear hb))
      | (go_at_call 21; ((with_reducible refine (R2.out _).mono ?_); rintro e v8 ⟨rfl, hb⟩; have HB8 := Lib.hid (bel0 HB7.out hb); have T8 := Lib.hid (block_below T7.out hb); clear c0 c1 c2; obtain ⟨⟨c0, c1, c2⟩, _⟩ := three_of_blockD T8.out; clear hb))
      | (go_at_call 22; ((with_reducible refine (R4.out _).mono ?_); rintro e v9 ⟨rfl, hb⟩; have HB9 := Lib.hid (bel0 HB8.out hb); have T9 := Lib.hid (block_below T8.out hb); clear c0 c1 c2; obtain ⟨⟨c0, c1, c2⟩, _⟩ := three_of_blockD T9.out; clear hb))
      | fail)
    go_ret
    exact ⟨rfl, HB9.out⟩
  · have H1 := Lib.hid (fun V => cusp_bad N W D V h)
    have H2 := Lib.hid (fun V => eis_bad N W D V h)
    have H3 := Lib.hid (fun V => mod_bad N W D V h)
    have H4 := Lib.hid (fun V => new_bad N W D V h)
    have hk1 : (ckV N W D != 0) = true := by rw [bne_iff_ne]; exact h
    clear h
    generalize ckV N W D = k at *
    have T0 : Hid ((w.alloc (.cells #[.int .i64 N, .int .i64 W, .int .i64 D] 23)).heap[w.heap.size]? = some (.cells #[.int .i64 N, .int .i64 W, .int .i64 D] 23 (0, 0))) := heap_alloc_new w _
    have HB0 : Hid (Below w.heap.size w (w.alloc (.cells #[.int .i64 N, .int .i64 W, .int .i64 D] 23))) := below1 w _
    obtain ⟨⟨c0, c1, c2⟩, _⟩ := three_of_blockD T0.out
    go_enter Try.func4, Try.ntmps4
    go_wp2_with (first
      | (go_at_call 11; ((with_reducible refine (HA.out _).mono ?_); rintro e v1 ⟨rfl, hb⟩; have HB1 := Lib.hid (bel0 HB0.out hb); have T1 := Lib.hid (block_below T0.out hb); clear c0 c1 c2; obtain ⟨⟨c0, c1, c2⟩, _⟩ := three_of_blockD T1.out; clear hb))
      | (go_at_call 16; ((with_reducible refine (H1.out _).mono ?_); rintro e v2 ⟨rfl, hb⟩; have HB2 := Lib.hid (bel0 HB1.out hb); have T2 := Lib.hid (block_below T1.out hb); clear c0 c1 c2; obtain ⟨⟨c0, c1, c2⟩, _⟩ := three_of_blockD T2.out; clear hb))
      | (go_at_call 17; ((with_reducible refine (H2.out _).mono ?_); rintro e v3 ⟨rfl, hb⟩; have HB3 := Lib.hid (bel0 HB2.out hb); have T3 := Lib.hid (block_below T2.out hb); clear c0 c1 c2; obtain ⟨⟨c0, c1, c2⟩, _⟩ := three_of_blockD T3.out; clear hb))
      | (go_at_call 18; ((with_reducible refine (H3.out _).mono ?_); rintro e v4 ⟨rfl, hb⟩; have HB4 := Lib.hid (bel0 HB3.out hb); have T4 := Lib.hid (block_below T3.out hb); clear c0 c1 c2; obtain ⟨⟨c0, c1, c2⟩, _⟩ := three_of_blockD T4.out; clear hb))
      | (go_at_call 19; ((with_reducible refine (H4.out _).mono ?_); rintro e v5 ⟨rfl, hb⟩; have HB5 := Lib.hid (bel0 HB4.out hb); have T5 := Lib.hid (block_below T4.out hb); clear c0 c1 c2; obtain ⟨⟨c0, c1, c2⟩, _⟩ := three_of_blockD T5.out; clear hb))
      | (go_at_call 12; ((with_reducible refine (HR.out _).mono ?_); rintro e v6 ⟨rfl, hb⟩; have HB6 := Lib.hid (bel0 HB5.out hb); have T6 := Lib.hid (block_below T5.out hb); clear c0 c1 c2; obtain ⟨⟨c0, c1, c2⟩, _⟩ := three_of_blockD T6.out; clear hb))
      | fail)
    go_ret
    exact ⟨rfl, HB6.out⟩
end Go.Proofs.Ytaofkfphkkfbnaa
