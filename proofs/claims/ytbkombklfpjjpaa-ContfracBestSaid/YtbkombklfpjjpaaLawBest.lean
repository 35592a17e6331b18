/- ContfracBest answers true for all arguments: what it does to the world. -/
import Derived.Test.YtbkombklfpjjpaaLawPath
import Derived.Test.YtbkombklfpjjpaaBestM
import Derived.Test.YtbkombklfpjjpaaOpenF
namespace Go.Proofs.Ytbkombklfpjjpaa
open Go.RowKit

structure BestOk (p q : Int) (l : List Int) (C : List (Int × Int)) (L : Nat) : Prop where
  len : C.length = L + 2
  llen : l.length = L + 2
  rng : ∀ x ∈ C, inE x.1 = true ∧ inE x.2 = true
  best : ∀ (j : Nat) (u v : Int × Int), C[j]? = some u → C[j + 1]? = some v → ∀ r s : Int, 0 < s → s < v.2 → (u.2 * p - u.1 * q).natAbs ≤ (s * p - r * q).natAbs
theorem best_ok {p q : Int} (h : cuspI p q = 0) (hq : 0 < q) {L : Nat} (hl : (cfe p q).length = L + 2) : cvI (cfe p q) = 0 ∧ BestOk p q (cfe p q) (cvl (cfe p q)) L := by
  obtain ⟨C, c1, c2, _⟩ := cvg_cfe h hq
  obtain ⟨v1, v2⟩ := cvI_ok (cfe_ne hq) (elB_cfe h hq) c1
  refine ⟨v1, ?_⟩
  rw [v2]
  refine ⟨by omega, hl, cvg_in _ _ _ _ _ _ c1, fun j u v hu hv r s hs hsl => ?_⟩
  obtain ⟨x, y, hw⟩ := way_cfe h hq c1 j u v hu hv
  refine best hw ?_ r s hs hsl
  obtain ⟨h1, e1⟩ := List.getElem?_eq_some_iff.1 hu
  obtain ⟨h2, e2⟩ := List.getElem?_eq_some_iff.1 hv
  have := dets_pm (cvg_dets0 (cfe_el h hq) c1) (.inr rfl) j h2
  rw [e1, e2] at this
  exact this
/-- Two boxes: a cusp and a pair of 32-bit integers. -/
def TwoF (W : World) (g : Nat) (a b r s : Int) : Prop := W.heap[g]? = some (.cells #[.int .i64 a, .int .i64 b] 23 (0, 0)) ∧ W.heap[g + 1]? = some (.cells #[.int .i32 r, .int .i32 s] 43 (0, 0))
theorem TwoF.below {W W' : World} {g : Nat} {a b c d : Int} (h : TwoF W g a b c d) (hb : Below W.heap.size W W') : TwoF W' g a b c d := ⟨block_below h.1 hb, block_below h.2 hb⟩
theorem TwoF.cells {W : World} {g : Nat} {a b c d : Int} (h : TwoF W g a b c d) :
    W.cell? ⟨g, 0, none⟩ = some (.int .i64 a) ∧ W.cell? ⟨g, 1, none⟩ = some (.int .i64 b) ∧ W.cell? ⟨g + 1, 0, none⟩ = some (.int .i32 c) ∧ W.cell? ⟨g + 1, 1, none⟩ = some (.int .i32 d) :=
  ⟨(two_of_block h.1).1.1, (two_of_block h.1).1.2, (two_of_block h.2).1.1, (two_of_block h.2).1.2⟩
theorem prod32 {x y : Int} (x1 : -2147483648 ≤ x) (x2 : x ≤ 2147483647) (y1 : -1073741824 ≤ y) (y2 : y ≤ 1073741824) : -2305843009213693952 ≤ x * y ∧ x * y ≤ 2305843009213693952 := by
  have h : (x * y).natAbs ≤ 2147483648 * 1073741824 := by
    rw [Int.natAbs_mul]
    exact Nat.mul_le_mul (by omega) (by omega)
  omega
set_option maxHeartbeats 6400000 in
set_option maxRecDepth 1000000 in
theorem best_walk (p q i r s : Int) (w : World) (hi : (Lit.int .u8 i).wf = true) (f : (-2147483648 ≤ r ∧ r ≤ 2147483647) ∧ (-2147483648 ≤ s ∧ s ≤ 2147483647)) :
    Calls Try.prog 6 #[.agg #[.int .i64 p, .int .i64 q], .int .u8 i, .agg #[.int .i32 r, .int .i32 s]] w fun e w' => e = .returned (.bool true) ∧ Below w.heap.size w w' := by
  obtain ⟨i1, i2⟩ := u8_of_wf hi
  obtain ⟨⟨r1, r2⟩, s1, s2⟩ := f
  have HA := Lib.hid (fun W => expand_any p q W)
  clear hi
  by_cases h : expI p q = 0
  · obtain ⟨h1, h2, h3⟩ := exp_ok h
    rw [h, h3] at HA
    by_cases hn : (cfe p q).length < 2
    · have hn2 : ((cfe p q).length : Int) < 2 := by omega
      have HX : Hid (∀ W, Calls Try.prog 14 #[.agg #[.int .i64 p, .int .i64 q]] W fun e w' => ∃ A c, e = .returned (.tuple #[.slice A (cfe p q).length c, .int .i64 0]) ∧ RdZ w' w'.heap.size A c (cfe p q) ∧ Below W.heap.size W w') := fun W => (HA.out W).mono fun e w' hh => by
        obtain ⟨A, c, h1, h2, _, h3⟩ := hh
        exact ⟨A, c, h1, h2, h3⟩
      clear h h1 h2 h3 hn HA
      generalize cfe p q = l at *
      go_enter Try.func6, Try.ntmps6
      go_wp2_with (first
        | (go_at_call 13; ((with_reducible refine (awake_any _).mono ?_); rintro e w1 ⟨rfl, hb⟩; have T1 := Lib.hid (TwoF.below ⟨heap_alloc2_old w _ _, heap_alloc2_new w _ _⟩ hb); have HB1 : Hid (Below w.heap.size w w1) := bel2 (Below.refl _ _) hb; obtain ⟨p0, p1, p2, p3⟩ := T1.out.cells; obtain ⟨hz0, hz1⟩ : w.heap.size < w1.heap.size ∧ w.heap.size + 1 < w1.heap.size := (by have := hb.size; simp at this; omega); clear hb))
        | (go_at_call 14; ((with_reducible refine (HX.out _).mono ?_); rintro e w2 ⟨A1, c1, rfl, hr, hb⟩; have R2 := Lib.hid hr; have T2 := Lib.hid (T1.out.below hb); have HB2 : Hid (Below w.heap.size w w2) := bel0 HB1.out hb; clear hr hb))
        | fail)
      go_ret
      exact ⟨rfl, HB2.out⟩
    obtain ⟨L, hL⟩ : ∃ L, (cfe p q).length = L + 2 := ⟨(cfe p q).length - 2, by omega⟩
    obtain ⟨v1, hB⟩ := best_ok h1 h2 hL
    have hl64 := cfe_len64 h1 h2
    obtain ⟨e0, e1, _⟩ := cuspI_zero.1 h1
    obtain ⟨q1, q2⟩ := inE_iff.1 e0
    have HX : Hid (∀ W, Calls Try.prog 14 #[.agg #[.int .i64 p, .int .i64 q]] W fun e w' => ∃ A c, e = .returned (.tuple #[.slice A (L + 2) c, .int .i64 0]) ∧ RdZ w' w'.heap.size A c (cfe p q) ∧ Below W.heap.size W w') := fun W => (HA.out W).mono fun e w' hh => by
      obtain ⟨A, c, h1, h2, _, h3⟩ := hh
      exact ⟨A, c, by rw [← hL]; exact h1, h2, h3⟩
    have HC := Lib.hid (fun W A c (h : RdZ W W.heap.size A c (cfe p q)) => convX_any W h)
    rw [v1, hB.len, hL] at HC
    clear h h1 h3 hn HA v1 e0
    generalize cvl (cfe p q) = C at *
    generalize cfe p q = l at *
    have hLL : (L : Int) + 2 ≤ 64 := by omega
    have HO : Hid (∀ (W : World) A c b, W.ownsRow b 23 2 (.slice A (L + 2) c) (L + 2) (cs C) → RdC W W.heap.size A c C) := fun W A c b h => own_rdc (by rw [hB.len]; exact h)
    have HB := Lib.hid hB
    have m1 := Int.emod_nonneg i (show (L : Int) + 2 - 1 ≠ 0 by omega)
    have m2 := Int.emod_lt_of_pos i (show 0 < (L : Int) + 2 - 1 by omega)
    obtain ⟨K, hK⟩ : ∃ K : Nat, i % ((L : Int) + 2 - 1) = (K : Int) := ⟨(i % ((L : Int) + 2 - 1)).toNat, by omega⟩
    have hKL : K ≤ L := by omega
    obtain ⟨u, hu⟩ : ∃ u, C[K]? = some u := ⟨_, List.getElem?_eq_getElem (by have := hB.len; omega)⟩
    obtain ⟨v, hv⟩ : ∃ v, C[K + 1]? = some v := ⟨_, List.getElem?_eq_getElem (by have := hB.len; omega)⟩
    have HBS := Lib.hid (hB.best K u v hu hv r s)
    obtain ⟨ru1, ru2⟩ := hB.rng u (List.mem_of_getElem? hu)
    obtain ⟨rv1, rv2⟩ := hB.rng v (List.mem_of_getElem? hv)
    have HU := Lib.hid hu
    have HV := Lib.hid hv
    have HLEN := Lib.hid hB.len
    clear hL hB hl64 hu hv m1 m2 HB
    go_enter Try.func6, Try.ntmps6
    go_upto_region 10 with (first
      | (go_at_call 13; ((with_reducible refine (awake_any _).mono ?_); rintro e w1 ⟨rfl, hb⟩; have T1 := Lib.hid (TwoF.below ⟨heap_alloc2_old w _ _, heap_alloc2_new w _ _⟩ hb); have HB1 : Hid (Below w.heap.size w w1) := bel2 (Below.refl _ _) hb; obtain ⟨p0, p1, p2, p3⟩ := T1.out.cells; obtain ⟨hz0, hz1⟩ : w.heap.size < w1.heap.size ∧ w.heap.size + 1 < w1.heap.size := (by have := hb.size; simp at this; omega); clear hb))
      | (go_at_call 14; ((with_reducible refine (HX.out _).mono ?_); rintro e w2 ⟨A1, c1, rfl, hr, hb⟩; have R2 := Lib.hid hr; have T2 := Lib.hid (T1.out.below hb); have HB2 : Hid (Below w.heap.size w w2) := bel0 HB1.out hb; clear hr hb))
      | (go_at_call 18; ((with_reducible refine (HC.out _ _ _ R2.out).mono ?_); rintro e w3 ⟨A3, c3, rfl, ho, hb⟩; have C3 := Lib.hid (HO.out _ _ _ _ ho); have T3 := Lib.hid (T2.out.below hb); have HB3 : Hid (Below w.heap.size w w3) := bel0 HB2.out hb; clear ho hb))
      | fail)
    obtain ⟨b, o, rfl, hb3⟩ := C3.out.some_ (by rw [HLEN.out]; omega)
    obtain ⟨x0, x1⟩ := C3.out.get HU.out
    obtain ⟨x2, x3⟩ := C3.out.get HV.out
    obtain ⟨s0, s1', s2', s3⟩ := T3.out.cells
    have y0 := fun N => (show (w3.drewN N).cell? ⟨b, o + K * 2, none⟩ = some (.int .i64 u.1) from x0)
    have y1 := fun N => (show (w3.drewN N).cell? ⟨b, o + K * 2 + 1, none⟩ = some (.int .i64 u.2) from x1)
    have y3 := fun N => (show (w3.drewN N).cell? ⟨b, o + (K + 1) * 2 + 1, none⟩ = some (.int .i64 v.2) from x3)
    have t0 := fun N => (show (w3.drewN N).cell? ⟨w.heap.size, 0, none⟩ = some (.int .i64 p) from s0)
    have t1 := fun N => (show (w3.drewN N).cell? ⟨w.heap.size, 1, none⟩ = some (.int .i64 q) from s1')
    have t2 := fun N => (show (w3.drewN N).cell? ⟨w.heap.size + 1, 0, none⟩ = some (.int .i32 r) from s2')
    have t3 := fun N => (show (w3.drewN N).cell? ⟨w.heap.size + 1, 1, none⟩ = some (.int .i32 s) from s3)
    clear x0 x1 x2 x3 s0 s1' s2' s3 p0 p1 p2 p3
    obtain ⟨v1, v2⟩ := inE_iff.1 rv2
    obtain ⟨u1, u2⟩ := inE_iff.1 ru1
    obtain ⟨u3, u4⟩ := inE_iff.1 ru2
    generalize u.1 = a at *
    generalize u.2 = c at *
    generalize v.2 = d at *
    clear ru1 ru2 rv1 rv2
    have k1 : (1 + (K : Int)).toNat = K + 1 := by omega
    have k2 : 0 ≤ 1 + (K : Int) := by omega
    have k3 : 1 + (K : Int) < (L : Int) + 2 := by omega
    have k4 : 1 + (K : Int) - 1 = (K : Int) := by omega
    have k5 : (K : Int) < (L : Int) + 2 := by omega
    have m1 : -2305843009213693952 ≤ s * p ∧ s * p ≤ 2305843009213693952 := prod32 s1 s2 q1 q2
    have m2 : -2305843009213693952 ≤ r * q ∧ r * q ≤ 2305843009213693952 := prod32 r1 r2 (by omega) e1
    obtain ⟨m1, m1'⟩ := m1
    obtain ⟨m2, m2'⟩ := m2
    obtain ⟨n1, n2⟩ := prod_le u3 u4 q1 q2
    obtain ⟨n3, n4⟩ := prod_le u1 u2 (show -1073741824 ≤ q by omega) e1
    go_quiet (fail)
    by_cases hs0 : s ≤ 0
    · go_wp2
      go_ret
      exact ⟨rfl, below_drewN HB3.out _⟩
    by_cases hsd : d ≤ s
    · go_wp2
      go_ret
      exact ⟨rfl, below_drewN HB3.out _⟩
    have hsd' : s < d := by omega
    have hs0' : 0 < s := by omega
    have hbest := HBS.out hs0' hsd'
    clear hs0 hsd HBS
    have HBB := Lib.hid hbest
    clear hbest
    go_wp2
    go_quiet (fail)
    go_wp2
    all_goals
      go_ret
      exact ⟨by rw [decide_eq_true (by have := HBB.out; omega)]; rfl, below_drewN HB3.out _⟩
  · have hk : (expI p q != 0) = true := by simpa using h
    rw [exl_nil h] at HA
    have HX : Hid (∀ W, Calls Try.prog 14 #[.agg #[.int .i64 p, .int .i64 q]] W fun e w' => ∃ A c, e = .returned (.tuple #[.slice A 0 c, .int .i64 (expI p q)]) ∧ RdZ w' w'.heap.size A c [] ∧ Below W.heap.size W w') := fun W => (HA.out W).mono fun e w' hh => by
      obtain ⟨A, c, h1, h2, _, h3⟩ := hh
      exact ⟨A, c, h1, h2, h3⟩
    clear h HA
    generalize expI p q = k at *
    go_enter Try.func6, Try.ntmps6
    go_wp2_with (first
      | (go_at_call 13; ((with_reducible refine (awake_any _).mono ?_); rintro e w1 ⟨rfl, hb⟩; have T1 := Lib.hid (TwoF.below ⟨heap_alloc2_old w _ _, heap_alloc2_new w _ _⟩ hb); have HB1 : Hid (Below w.heap.size w w1) := bel2 (Below.refl _ _) hb; obtain ⟨p0, p1, p2, p3⟩ := T1.out.cells; obtain ⟨hz0, hz1⟩ : w.heap.size < w1.heap.size ∧ w.heap.size + 1 < w1.heap.size := (by have := hb.size; simp at this; omega); clear hb))
      | (go_at_call 14; ((with_reducible refine (HX.out _).mono ?_); rintro e w2 ⟨A1, c1, rfl, hr, hb⟩; have R2 := Lib.hid hr; have T2 := Lib.hid (T1.out.below hb); have HB2 : Hid (Below w.heap.size w w2) := bel0 HB1.out hb; clear hr hb))
      | fail)
    go_ret
    exact ⟨rfl, HB2.out⟩
end Go.Proofs.Ytbkombklfpjjpaa
