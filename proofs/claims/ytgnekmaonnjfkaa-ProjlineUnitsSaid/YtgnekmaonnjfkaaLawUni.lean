/- ProjlineUnits answers true for all integers, all pairs, all 16-bit integers. -/
import Derived.Test.YtgnekmaonnjfkaaAwakeL
import Derived.Test.YtgnekmaonnjfkaaPtM
namespace Go.Proofs.Ytgnekmaonnjfkaa
open Go.RowKit
set_option linter.unusedVariables false

/-- Block g holds the pair. -/
def Pair (w : World) (g : Nat) (a b : Int) : Prop := w.heap[g]? = some (.cells #[.int .i64 a, .int .i64 b] 31 (0, 0))
/-- What the law asks of a normal form. -/
structure UF (n c d U V T : Int) : Prop where
  p1 : T * U ≤ 14400
  p2 : T * V ≤ 14400
  q1 : 0 ≤ T * U
  q2 : 0 ≤ T * V
  e1 : (T * U - c).tmod n = 0
  e2 : (T * V - d).tmod n = 0
theorem uf_of {n c d U V T : Int} (n2 : n ≤ 120) (h : NF n c d U V T) : UF n c d U V T := by
  have := h.u0; have := h.u1; have := h.v0; have := h.v1; have := h.t1; have := h.tn
  obtain ⟨a1, a2⟩ := prod_bd (show 0 ≤ T by omega) (by omega) (show 0 ≤ U by omega) (by omega)
  obtain ⟨b1, b2⟩ := prod_bd (show 0 ≤ T by omega) (by omega) (show 0 ≤ V by omega) (by omega)
  exact ⟨a2, b2, a1, b1, Int.tmod_eq_zero_of_dvd h.eu, Int.tmod_eq_zero_of_dvd h.ev⟩
theorem small_mul {s u : Int} (s1 : -32768 ≤ s) (s2 : s ≤ 32767) (u0 : 0 ≤ u) (u1 : u < 120) : -1073741824 ≤ s * u ∧ s * u ≤ 1073741824 := by
  have := Int.mul_le_mul_of_nonneg_right s1 u0
  have := Int.mul_le_mul_of_nonneg_right s2 u0
  omega
/-- The normal form of a multiple by a unit. -/
theorem unit_nor {n c d s U V T U' V' T' k : Int} (n1 : 1 ≤ n) (n2 : n ≤ 120) (h : NF n c d U V T) (hc : Cop3 n c d) (s1 : -32768 ≤ s) (s2 : s ≤ 32767) (hs : Int.gcd s n = 1) (h' : NorE n (s * U) (s * V) U' V' T' k) : k = 0 ∧ U' = U ∧ V' = V ∧ (T' - s).tmod n = 0 ∧ 1 ≤ T' ∧ T' ≤ n := by
  have := h.u0; have := h.u1; have := h.v0; have := h.v1
  have b1 := small_mul s1 s2 h.u0 (by omega)
  have b2 := small_mul s1 s2 h.v0 (by omega)
  have e1 : inE (s * U) = true := inE_yes b1.1 b1.2
  have e2 : inE (s * V) = true := inE_yes b2.1 b2.2
  have hcu := h.cop3 hc
  obtain ⟨r, hr⟩ := unit_inv hs
  have k1 : n ∣ r * (s * U) - U := by obtain ⟨a, ha⟩ := hr; exact ⟨a * U, by clear e1 e2 b1 b2; grind⟩
  have k2 : n ∣ r * (s * V) - V := by obtain ⟨a, ha⟩ := hr; exact ⟨a * V, by clear e1 e2 b1 b2; grind⟩
  have hcs : Cop3 n (s * U) (s * V) := hcu.move k1 k2
  cases h' with
  | out h => rw [lvB_yes n1 n2, e1, e2] at h; simp at h
  | cop _ _ _ _ hg => exact absurd (cop3_gcd hcs) hg
  | yes _ _ _ _ _ _ _ _ hN =>
    have z1 : n ∣ s * U - s * U := ⟨0, by omega⟩
    have z2 : n ∣ s * V - s * V := ⟨0, by omega⟩
    have hS := h.self n1
    obtain ⟨rfl, rfl⟩ := NF.orbit hs z1 z2 hS hN
    refine ⟨rfl, rfl, rfl, ?_, hN.t1, hN.tn⟩
    have := Int.dvd_neg.2 (NF.unitOf hcu z1 z2 hS hN)
    rw [Int.mul_one, show -(s - T') = T' - s by omega] at this
    exact Int.tmod_eq_zero_of_dvd this
set_option maxHeartbeats 6400000 in
set_option maxRecDepth 1000000 in
theorem units_walk (n p q s : Int) (w : World) (hs : -32768 ≤ s ∧ s ≤ 32767) :
    Calls Try.prog 4 #[.int .i64 n, .agg #[.int .i64 p, .int .i64 q], .int .i16 s] w fun e w' => e = .returned (.bool true) ∧ Below w.heap.size w w' := by
  obtain ⟨s1, s2⟩ := hs
  go_enter Try.func4, Try.ntmps4
  go_upto_region 4 with (first
    | (go_at_call 12; ((with_reducible refine (awake_any _).mono ?_); rintro e w1 ⟨rfl, hb⟩; have T4 : Hid (Pair w1 w.heap.size p q) := block_below (heap_alloc_new w _) hb; have HB1 := Lib.hid (bel1 (Below.refl _ _) hb); obtain ⟨⟨x1, x2⟩, _⟩ := two_of_block T4.out; have hz1 := lt_of_block T4.out; clear hb))
    | (go_at_call 13; ((with_reducible refine (pnormal_any n p q _).mono ?_); rintro e w2 ⟨U, V, T, k, hE, rfl, hb⟩; have HE := Lib.hid hE; have U4 : Hid (Pair w2 w.heap.size p q) := block_below T4.out hb; have HB2 := Lib.hid (bel0 HB1.out hb); clear hb hE x1 x2; obtain ⟨⟨x1, x2⟩, _⟩ := two_of_block U4.out; have hz2 := lt_of_block U4.out))
    | fail)
  have hsz := HB2.out.size
  by_cases hk : k = 0
  case neg =>
    clear HE
    go_wp2
    go_ret
    exact ⟨rfl, HB2.out.alloc hsz _⟩
  obtain ⟨n1, n2, hp, hq, hg, hN⟩ : 1 ≤ n ∧ n ≤ 120 ∧ inE p = true ∧ inE q = true ∧ Int.gcd (Int.gcd p q) n = 1 ∧ NF n p q U V T := by
    have h := HE.out
    subst hk
    generalize hz : (0 : Int) = z at h
    cases h with
    | out h => exact absurd hz (by decide)
    | cop _ _ _ _ _ => exact absurd hz (by decide)
    | yes _ _ _ h1 h2 h3 h4 h5 h6 => exact ⟨h1, h2, h3, h4, h5, h6⟩
  subst hk
  have HN := Lib.hid hN
  have HC := Lib.hid (cop3_of hg)
  have hUF := uf_of n2 hN
  have t1 := hN.t1; have tn := hN.tn; have u0 := hN.u0; have u1 := hN.u1; have v0 := hN.v0; have v1 := hN.v1
  obtain ⟨p1, p2, q1, q2, e1, e2⟩ := hUF
  have bp := inE_iff.1 hp
  have bq := inE_iff.1 hq
  obtain ⟨bp1, bp2⟩ := bp
  obtain ⟨bq1, bq2⟩ := bq
  clear hN hg HE hp hq
  have HG := Lib.hid (fun W => rGcd_any s n W (by unfold Mid; omega) (by unfold Mid; omega))
  have hn0 : ¬ n = 0 := by omega
  obtain ⟨m1, m2⟩ := small_mul s1 s2 u0 (by omega)
  obtain ⟨m3, m4⟩ := small_mul s1 s2 v0 (by omega)
  by_cases hgs : Int.gcd s n = 1
  case neg =>
    obtain ⟨z, hz⟩ : ∃ z : Int, z = (Int.gcd s n : Nat) := ⟨_, rfl⟩
    have hz1 : (z != 1) = true := by rw [bne_iff_ne]; omega
    rw [← hz] at HG
    clear hgs hz
    go_wp2_with (first
      | (go_at_call 15; ((with_reducible refine (HG.out _).mono ?_); rintro e w' ⟨rfl, q3, rfl⟩))
      | fail)
    go_ret
    exact ⟨rfl, below_drewN (HB2.out.alloc hsz _) q3⟩
  have HU := Lib.hid (fun U' V' T' k (h : NorE n (s * U) (s * V) U' V' T' k) => unit_nor n1 n2 HN.out HC.out s1 s2 hgs h)
  rw [hgs] at HG
  clear hgs
  have V7 : Hid (Tri (w2.alloc (.cells #[.int .i64 U, .int .i64 V, .int .i64 T] 24)) w2.heap.size U V T) := Tri.at w2 rfl U V T
  have HB3 := Lib.hid (HB2.out.alloc hsz (.cells #[.int .i64 U, .int .i64 V, .int .i64 T] 24))
  go_upto_region 10 with (first
    | (go_at_call 15; ((with_reducible refine (HG.out _).mono ?_); rintro e w' ⟨rfl, q3, rfl⟩))
    | fail)
  have V8 := Lib.hid (V7.out.drewN q3)
  have HB4 := Lib.hid (below_drewN HB3.out q3)
  clear V7 HB3 x1 x2
  generalize (w2.alloc (.cells #[.int .i64 U, .int .i64 V, .int .i64 T] 24)).drewN q3 = W3 at *
  obtain ⟨k1, k2, k3⟩ := V8.out.cells
  have hz8 := V8.out.lt
  go_upto_region 11 with (first
    | (go_at_call 13; ((with_reducible refine (pnormal_any n (s * U) (s * V) _).mono ?_); rintro e w4 ⟨U', V', T', k', hE, rfl, hb⟩; have HUU := Lib.hid (HU.out U' V' T' k' hE); have V9 := Lib.hid (V8.out.below hb); have HB5 := Lib.hid (bel0 HB4.out hb); clear hb hE k1 k2 k3; obtain ⟨k1, k2, k3⟩ := V9.out.cells; have hz9 := V9.out.lt))
    | fail)
  obtain ⟨rfl, rfl, rfl, f1, f2, f3⟩ := HUU.out
  have hsz5 := HB5.out.size
  clear e1 e2
  go_wp2
  go_ret
  exact ⟨rfl, HB5.out.alloc hsz5 _⟩
end Go.Proofs.Ytgnekmaonnjfkaa
