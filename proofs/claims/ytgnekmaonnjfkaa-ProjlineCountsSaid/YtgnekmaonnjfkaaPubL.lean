/- The contracts of List and Lift. -/
import Derived.Test.YtgnekmaonnjfkaaLstL
namespace Go.Proofs.Ytgnekmaonnjfkaa
open Go.RowKit
set_option linter.unusedVariables false

theorem lv_nat {n : Int} (h : lvB n = true) : ∃ k : Nat, n = k ∧ 1 ≤ k ∧ (k : Int) ≤ 120 := by
  obtain ⟨h1, h2⟩ := lvB_iff.1 h
  exact ⟨n.toNat, by omega, by omega, by omega⟩
/-- The points of a level, none where there is no level. -/
def ptI (n : Int) : List (Nat × Nat) := if lvB n = true then pts n.toNat else []
def lvE (n : Int) : Int := if lvB n = true then 0 else 2
theorem ptI_yes {k : Nat} (h : lvB (k : Int) = true) : ptI k = pts k := by unfold ptI; rw [if_pos h]; rfl
theorem ptI_no {n : Int} (h : lvB n = false) : ptI n = [] := if_neg (by rw [h]; decide)
theorem lvE_yes {n : Int} (h : lvB n = true) : lvE n = 0 := if_pos h
theorem lvE_no {n : Int} (h : lvB n = false) : lvE n = 2 := if_neg (by rw [h]; decide)
set_option maxHeartbeats 1600000 in
set_option maxRecDepth 1000000 in
theorem plist_any (n : Int) (w : World) : Calls Try.prog 16 #[.int .i64 n] w fun e w' => ∃ A c, e = .returned (.tuple #[.slice A (ptI n).length c, .int .i64 (lvE n)]) ∧ RdP w' w'.heap.size A c (ptI n) ∧ Below w.heap.size w w' := by
  have HL := Lib.hid (fun W => isLevel_any n W)
  cases hb : lvB n with
  | false =>
    rw [hb] at HL
    rw [ptI_no hb, lvE_no hb]
    clear hb
    go_enter Try.func16, Try.ntmps16
    go_wp2_with (first
      | (go_at_call 30; ((with_reducible refine (HL.out _).mono ?_); rintro e w' ⟨rfl, rfl⟩))
      | fail)
    refine bodyPost_ret (v := .tuple #[.slice none 0 0, .int .i64 2]) ?_ rfl ⟨none, 0, rfl, rdp_nil _ _, Below.refl _ _⟩
    simp [results, Try.results16, go_sem, *]
  | true =>
    rw [hb] at HL
    obtain ⟨k, rfl, k1, k2⟩ := lv_nat hb
    rw [ptI_yes hb, lvE_yes hb]
    clear hb
    have HG := Lib.hid (fun W => list_any k W k1 k2)
    generalize pts k = C at *
    go_enter Try.func16, Try.ntmps16
    go_wp2_with (first
      | (go_at_call 30; ((with_reducible refine (HL.out _).mono ?_); rintro e w' ⟨rfl, rfl⟩))
      | (go_at_call 37; ((with_reducible refine (HG.out _).mono ?_); rintro e w2 ⟨A, c, rfl, ho, hb⟩; have HO := Lib.hid ho; have HB := Lib.hid hb; clear ho hb))
      | fail)
    refine bodyPost_ret (v := .tuple #[.slice A C.length c, .int .i64 0]) ?_ rfl ⟨A, c, rfl, own_rdp HO.out, HB.out⟩
    simp [results, Try.results16, go_sem, *]
theorem mem_row {n u v : Nat} : v ∈ row n u ↔ v < n ∧ ptB n u v = true := by unfold row; rw [List.mem_filter, List.mem_range]
theorem mem_pts {n u v : Nat} : (u, v) ∈ pts n ↔ u < n ∧ v < n ∧ ptB n u v = true := by
  unfold pts
  rw [List.mem_flatMap]
  constructor
  · rintro ⟨u', h1, h2⟩
    rw [List.mem_map] at h2
    obtain ⟨v', h3, h4⟩ := h2
    cases h4
    exact ⟨List.mem_range.1 h1, mem_row.1 h3⟩
  · rintro ⟨h1, h2⟩
    exact ⟨u, List.mem_range.2 h1, List.mem_map.2 ⟨v, mem_row.2 h2, rfl⟩⟩
theorem pts_u {n u v : Nat} (n1 : 1 ≤ n) (n2 : n ≤ 120) (h : (u, v) ∈ pts n) : u = 0 ∨ u ∣ n := by
  obtain ⟨h1, h2, h3⟩ := mem_pts.1 h
  by_cases hu : u = 0 ∨ u ∣ n
  · exact hu
  · have := row_no n1 n2 h1 hu
    have h4 := mem_row.2 ⟨h2, h3⟩
    rw [this] at h4; cases h4
/-- The second number is prime to the first. -/
theorem pts_cop {n u v : Nat} (n1 : 1 ≤ n) (n2 : n ≤ 120) (h : (u, v) ∈ pts n) (hu : 1 ≤ u) : Int.gcd (v : Int) (u : Int) = 1 := by
  obtain ⟨h1, h2, h3⟩ := mem_pts.1 h
  have hg := (ptB_all.1 h3).1
  have hd : u ∣ n := by rcases pts_u n1 n2 h with e | e; omega; exact e
  show Nat.gcd v u = 1
  rw [Nat.gcd_comm]
  rw [Nat.gcd_comm u v, Nat.gcd_assoc, Nat.gcd_eq_left hd, Nat.gcd_comm] at hg
  exact hg
/-- What Lift answers. -/
inductive LftE (n i : Int) : Int → Int → Int → Int → Int → Prop
  | out : (lvB n = false ∨ i < 0 ∨ ((ptI n).length : Int) ≤ i) → LftE n i 0 0 0 0 2
  | zero (v : Nat) : lvB n = true → 0 ≤ i → (ptI n)[i.toNat]? = some (0, v) → LftE n i 1 0 0 1 0
  | yes (u v : Nat) (a : Int) : lvB n = true → 0 ≤ i → (ptI n)[i.toNat]? = some (u, v) → 1 ≤ u → LeastInv v u a → LftE n i a ((a * v - 1) / u) u v 0
def LftRet (n i : Int) (w : World) (e : Ending) (w' : World) : Prop :=
  ∃ a b c d k, LftE n i a b c d k ∧ e = .returned (.tuple #[.agg #[.int .i64 a, .int .i64 b, .int .i64 c, .int .i64 d], .int .i64 k]) ∧ Below w.heap.size w w'
theorem lift_bd {u v a : Int} (u1 : 1 ≤ u) (u2 : u ≤ 120) (v0 : 0 ≤ v) (v2 : v ≤ 120) (h : LeastInv v u a) : 0 ≤ a * v ∧ a * v ≤ 14400 ∧ (a * v - 1).tdiv u = (a * v - 1) / u ∧ -1 ≤ (a * v - 1) / u ∧ (a * v - 1) / u ≤ 14400 := by
  have a0 := h.lo
  have a1 := h.hi
  obtain ⟨p0, p1⟩ := prod_bd a0 (by omega) v0 v2
  have hd : u ∣ a * v - 1 := by rw [Int.mul_comm]; exact h.dvd
  refine ⟨p0, p1, Int.tdiv_eq_ediv_of_dvd hd, (Int.le_ediv_iff_mul_le (by omega)).2 (by omega), ?_⟩
  rcases Int.lt_or_le (a * v - 1) 0 with c | c
  · have := Int.ediv_neg_of_neg_of_pos c (show 0 < u by omega); omega
  · exact Int.le_trans (Int.ediv_le_self _ c) (by omega)
set_option maxHeartbeats 3200000 in
set_option maxRecDepth 1000000 in
theorem plift_any (n i : Int) (w : World) : Calls Try.prog 28 #[.int .i64 n, .int .i64 i] w (LftRet n i w) := by
  have HL := Lib.hid (fun W => isLevel_any n W)
  cases hb : lvB n with
  | false =>
    have HE : Hid (LftE n i 0 0 0 0 2) := LftE.out (.inl hb)
    rw [hb] at HL
    clear hb
    go_enter Try.func28, Try.ntmps28
    go_wp2_with (first
      | (go_at_call 30; ((with_reducible refine (HL.out _).mono ?_); rintro e w' ⟨rfl, rfl⟩))
      | fail)
    refine bodyPost_ret (v := .tuple #[.agg #[.int .i64 0, .int .i64 0, .int .i64 0, .int .i64 0], .int .i64 2]) ?_ rfl ⟨_, _, _, _, _, HE.out, rfl, ?_⟩
    · simp [results, Try.results28, go_sem, *]
    · exact below1 _ _
  | true =>
    have HO : Hid (i < 0 ∨ ((ptI n).length : Int) ≤ i → LftE n i 0 0 0 0 2) := fun h => LftE.out (.inr h)
    have HZ : Hid (∀ v, 0 ≤ i → (ptI n)[i.toNat]? = some (0, v) → LftE n i 1 0 0 1 0) := fun v h1 h2 => LftE.zero v hb h1 h2
    have HY : Hid (∀ u v a, 0 ≤ i → (ptI n)[i.toNat]? = some (u, v) → 1 ≤ u → LeastInv v u a → LftE n i a ((a * v - 1) / u) u v 0) := fun u v a h1 h2 h3 h4 => LftE.yes u v a hb h1 h2 h3 h4
    rw [hb] at HL
    obtain ⟨k, rfl, k1, k2⟩ := lv_nat hb
    rw [ptI_yes hb] at HO HZ HY
    have HG := Lib.hid (fun W => list_any k W k1 k2)
    have hlen : (pts k).length ≤ 14400 := by
      have := ptu_len k k
      rw [ptu_pts] at this
      exact Nat.le_trans this (Nat.mul_le_mul (show k ≤ 120 by omega) (show k ≤ 120 by omega))
    have HM : Hid (∀ u v, (u, v) ∈ pts k → u < k ∧ v < k ∧ (1 ≤ u → Int.gcd (v : Int) (u : Int) = 1)) := fun u v h => ⟨(mem_pts.1 h).1, (mem_pts.1 h).2.1, pts_cop k1 (by omega) h⟩
    clear hb
    generalize pts k = C at *
    go_enter Try.func28, Try.ntmps28
    go_upto_region 4 with (first
      | (go_at_call 30; ((with_reducible refine (HL.out _).mono ?_); rintro e w' ⟨rfl, rfl⟩))
      | (go_at_call 37; ((with_reducible refine (HG.out _).mono ?_); rintro e w2 ⟨A, c, rfl, ho, hb⟩; have HF := Lib.hid ((Four.at w rfl 0 0 0 0).below hb); have HR := Lib.hid (own_rdp ho); have HB := Lib.hid (bel1 (Below.refl _ _) hb); clear ho hb))
      | fail)
    have hzf := HF.out.lt
    have hff := HF.out.free
    obtain ⟨f1, f2, f3, f4⟩ := HF.out.cells
    by_cases hi0 : i < 0
    · have HE := Lib.hid (HO.out (.inl hi0))
      go_wp2_with fail
      obtain ⟨d1, d2, d3, d4⟩ := (HF.out.set 0 0 0 0).cells
      refine bodyPost_ret (v := .tuple #[.agg #[.int .i64 0, .int .i64 0, .int .i64 0, .int .i64 0], .int .i64 2]) ?_ rfl ⟨_, _, _, _, _, HE.out, rfl, ?_⟩
      · simp [results, Try.results28, go_sem, d1, d2, d3, d4]
      · exact below_set4 HB.out (Nat.le_refl _) _ _ _ _
    by_cases hi1 : (C.length : Int) ≤ i
    · have HE := Lib.hid (HO.out (.inr hi1))
      go_wp2_with fail
      obtain ⟨d1, d2, d3, d4⟩ := (HF.out.set 0 0 0 0).cells
      refine bodyPost_ret (v := .tuple #[.agg #[.int .i64 0, .int .i64 0, .int .i64 0, .int .i64 0], .int .i64 2]) ?_ rfl ⟨_, _, _, _, _, HE.out, rfl, ?_⟩
      · simp [results, Try.results28, go_sem, d1, d2, d3, d4]
      · exact below_set4 HB.out (Nat.le_refl _) _ _ _ _
    obtain ⟨j, rfl⟩ : ∃ j : Nat, i = j := ⟨i.toNat, by omega⟩
    have hj : j < C.length := by omega
    obtain ⟨b, o, rfl, hbw, x1, x2, _⟩ := HR.out.at_ hj
    have hget : C[j]? = some (C[j].1, C[j].2) := by rw [List.getElem?_eq_getElem hj]
    obtain ⟨m1, m2, m3⟩ := HM.out C[j].1 C[j].2 (List.getElem_mem hj)
    have HZ2 := Lib.hid (fun v h => HZ.out v (by omega) h)
    have HY2 := Lib.hid (fun u v a h => HY.out u v a (by omega) h)
    rw [show ((j : Int)).toNat = j from rfl] at HZ2 HY2
    rw [hget] at HZ2 HY2
    clear hget HZ HY HO HM HR
    generalize C[j].1 = u at *
    generalize C[j].2 = v at *
    have hji : (j : Int) < (C.length : Int) := by omega
    have hlt : ¬ (C.length : Int) ≤ (j : Int) := by omega
    go_upto_region 6 with fail
    go_region
    have HF2 := Lib.hid HF.out.drew
    have HB2 := Lib.hid HB.out.drew
    clear HF hff f1 f2 f3 f4 HB x1 x2
    obtain ⟨W2, hW2⟩ : ∃ W2, W2 = w2.drew := ⟨_, rfl⟩
    rw [← hW2] at HF2 HB2 ⊢
    clear hW2
    have hff := HF2.out.free
    have hzf2 := HF2.out.lt
    obtain ⟨f1, f2, f3, f4⟩ := HF2.out.cells
    rcases Nat.eq_zero_or_pos u with h0 | h0
    · subst h0
      have HE := Lib.hid (HZ2.out v rfl)
      clear HZ2 HY2
      go_wp2_with fail
      obtain ⟨d1, d2, d3, d4⟩ := (HF2.out.set 1 0 0 1).cells
      refine bodyPost_ret (v := .tuple #[.agg #[.int .i64 1, .int .i64 0, .int .i64 0, .int .i64 1], .int .i64 0]) ?_ rfl ⟨_, _, _, _, _, HE.out, rfl, ?_⟩
      · simp [results, Try.results28, go_sem, d1, d2, d3, d4]
      · exact below_set4 HB2.out (Nat.le_refl _) _ _ _ _
    · have u1 : 1 ≤ (u : Int) := by omega
      obtain ⟨a, ha⟩ := least_some u1 (m3 h0)
      have HE := Lib.hid (HY2.out u v a rfl h0 ha)
      have HI := Lib.hid (fun W => inverse_at (a := a) W u1 (by omega) ha)
      obtain ⟨p0, p1, p2, p3, p4⟩ := lift_bd u1 (by omega) (by omega) (by omega) ha
      have a0 := ha.lo
      have a1 := ha.hi
      have hu0 : ((u : Int) == 0) = false := by rw [beq_eq_false_iff_ne]; omega
      clear ha HZ2 HY2 m3
      go_upto_region 10 with (first
        | (go_at_call 46; ((with_reducible refine (HI.out _).mono ?_); rintro e w' ⟨rfl, q2, rfl⟩))
        | fail)
      have HF3 := Lib.hid (HF2.out.drewN q2)
      have HB3 := Lib.hid (below_drewN HB2.out q2)
      clear HF2 HB2 f1 f2 f3 f4 hff hzf2
      generalize W2.drewN q2 = W3 at *
      have hff := HF3.out.free
      have hzf2 := HF3.out.lt
      obtain ⟨f1, f2, f3, f4⟩ := HF3.out.cells
      go_wp2_with fail
      obtain ⟨d1, d2, d3, d4⟩ := (HF3.out.set a ((a * v - 1) / u) u v).cells
      refine bodyPost_ret (v := .tuple #[.agg #[.int .i64 a, .int .i64 ((a * v - 1) / u), .int .i64 u, .int .i64 v], .int .i64 0]) ?_ rfl ⟨_, _, _, _, _, HE.out, rfl, ?_⟩
      · simp [results, Try.results28, go_sem, d1, d2, d3, d4]
      · exact below_set4 HB3.out (Nat.le_refl _) _ _ _ _
end Go.Proofs.Ytgnekmaonnjfkaa
