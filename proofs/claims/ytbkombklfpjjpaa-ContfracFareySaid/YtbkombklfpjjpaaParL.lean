/- The contract of Parents. -/
import Derived.Test.YtbkombklfpjjpaaInvL
import Derived.Test.YtbkombklfpjjpaaBoxL
import Derived.Test.YtbkombklfpjjpaaExpL
namespace Go.Proofs.Ytbkombklfpjjpaa
open Go.RowKit

/-- x/y is the lower parent of p/q. -/
structure ParIs (p q x y : Int) : Prop where
  det : p * y - x * q = 1
  pos : 0 < y
  lt : y < q
theorem ParIs.unique {p q x y x' y' : Int} (h : ParIs p q x y) (k : ParIs p q x' y') : x = x' ∧ y = y' := by
  obtain ⟨h1, h2, h3⟩ := h
  obtain ⟨k1, k2, k3⟩ := k
  have e : q * (x * y' - x' * y) = y - y' := by
    have a1 : q * (x * y' - x' * y) = (x * q) * y' - (x' * q) * y := by rw [Int.mul_sub, Int.mul_assoc x q, Int.mul_assoc x' q, Int.mul_left_comm q x, Int.mul_left_comm q x']
    rw [a1, show x * q = p * y - 1 by omega, show x' * q = p * y' - 1 by omega, Int.sub_mul, Int.sub_mul, Int.mul_assoc p y, Int.mul_assoc p y', Int.mul_comm y y']
    omega
  have h0 : x * y' - x' * y = 0 := by
    rcases Int.lt_trichotomy (x * y' - x' * y) 0 with c | c | c
    · have := Int.mul_le_mul_of_nonneg_left (show x * y' - x' * y ≤ -1 by omega) (show 0 ≤ q by omega); omega
    · exact c
    · have := Int.mul_le_mul_of_nonneg_left (show 1 ≤ x * y' - x' * y by omega) (show 0 ≤ q by omega); omega
  rw [h0, Int.mul_zero] at e
  have ey : y = y' := by omega
  subst ey
  refine ⟨?_, rfl⟩
  exact Int.eq_of_mul_eq_mul_right (show q ≠ 0 by omega) (by omega)
theorem ParIs.bd {p q x y : Int} (h : ParIs p q x y) (p1 : -1073741824 ≤ p) (p2 : p ≤ 1073741824) : -1073741824 ≤ x ∧ x ≤ 1073741824 := by
  obtain ⟨h1, h2, h3⟩ := h
  have a1 := Int.mul_le_mul_of_nonneg_right p1 (show 0 ≤ y by omega)
  have a2 := Int.mul_le_mul_of_nonneg_right p2 (show 0 ≤ y by omega)
  constructor
  · rcases Int.lt_or_le x (-1073741824) with c | c
    · have := Int.mul_le_mul_of_nonneg_right (show x ≤ -1073741825 by omega) (show 0 ≤ q by omega); omega
    · exact c
  · rcases Int.lt_or_le 1073741824 x with c | c
    · have := Int.mul_le_mul_of_nonneg_right (show 1073741825 ≤ x by omega) (show 0 ≤ q by omega); omega
    · exact c
theorem gcd_step0 {p q : Int} : Int.gcd q (p % q) = Int.gcd p q := by
  have e := Int.mul_ediv_add_emod p q
  conv => rhs; rw [← e, Int.add_comm, Int.gcd_add_mul_left_left]
  exact Int.gcd_comm _ _
theorem inv_par {p q u e : Int} (hg : Int.gcd p q = 1) (hq : 2 ≤ q) (h : InvIs p q u e) : e = 0 ∧ ∃ x, ParIs p q x u ∧ (p * u - 1).tdiv q = x := by
  have hg2 : Int.gcd (p % q) q = 1 := by rw [Int.gcd_comm, gcd_step0]; exact hg
  rcases h with ⟨_, rfl, ⟨⟨c, hc⟩, hlo, hhi⟩⟩ | ⟨h0, _⟩
  · have e := Int.mul_ediv_add_emod p q
    have hc2 : u * p - 1 = q * (c + u * (p / q)) := by
      conv => lhs; rw [← e]
      rw [Int.mul_add, Int.mul_add, Int.mul_left_comm u q]
      have : u * (p % q) = q * c + 1 := by simpa using (by omega : u * (p % q) = q * c + ((1 : Nat) : Int))
      omega
    refine ⟨rfl, c + u * (p / q), ⟨?_, ?_, ?_⟩, ?_⟩
    · rw [Int.mul_comm p u, Int.mul_comm _ q]; omega
    · rcases Int.lt_or_le 0 u with k | k
      · exact k
      · have hu : u = 0 := by omega
        rw [hu, Int.zero_mul, Int.zero_mul, Int.add_zero] at hc2
        have hm : q * c = -1 := by omega
        rcases Int.lt_or_le c 0 with k2 | k2
        · have := Int.mul_le_mul_of_nonneg_left (show c ≤ -1 by omega) (show 0 ≤ q by omega); omega
        · have := Int.mul_nonneg (show 0 ≤ q by omega) k2; omega
    · have : (q.natAbs / 1 : Nat) = q.natAbs := Nat.div_one _
      rw [this] at hhi; omega
    · rw [Int.mul_comm p u, hc2, Int.mul_tdiv_cancel_left _ (by omega)]
  · exact absurd hg2 h0
/-- What Parents answers. -/
def ParE (p q x y z t k : Int) : Prop :=
  (cuspI p q ≠ 0 ∧ x = 0 ∧ y = 0 ∧ z = 0 ∧ t = 0 ∧ k = cuspI p q) ∨ (cuspI p q = 0 ∧ q < 2 ∧ x = 0 ∧ y = 0 ∧ z = 0 ∧ t = 0 ∧ k = 3) ∨
  (cuspI p q = 0 ∧ 2 ≤ q ∧ ParIs p q x y ∧ z = p - x ∧ t = q - y ∧ k = 0)
theorem ParE.unique {p q x y z t k x' y' z' t' k' : Int} (h : ParE p q x y z t k) (h' : ParE p q x' y' z' t' k') : x = x' ∧ y = y' ∧ z = z' ∧ t = t' ∧ k = k' := by
  rcases h with ⟨h1, h2⟩ | ⟨h1, h2, h3⟩ | ⟨h1, h2, h3, h4⟩ <;> rcases h' with ⟨k1, k2⟩ | ⟨k1, k2, k3⟩ | ⟨k1, k2, k3, k4⟩
  any_goals omega
  obtain ⟨rfl, rfl⟩ := h3.unique k3
  omega
def ParRet (p q : Int) (w : World) (e : Ending) (w' : World) : Prop :=
  ∃ x y z t k, ParE p q x y z t k ∧ e = .returned (.tuple #[.agg #[.int .i64 x, .int .i64 y], .agg #[.int .i64 z, .int .i64 t], .int .i64 k]) ∧ Below w.heap.size w w'
set_option maxHeartbeats 1600000 in
set_option maxRecDepth 1000000 in
theorem parents_any (p q : Int) (w : World) : Calls Try.prog 33 #[.agg #[.int .i64 p, .int .i64 q]] w (ParRet p q w) := by
  have HC := Lib.hid (fun W => checkCusp_any p q W)
  by_cases h : cuspI p q = 0
  · obtain ⟨e0, e1, k⟩ := cuspI_zero.1 h
    obtain ⟨p1, p2⟩ := inE_iff.1 e0
    have k0 := k.pos
    rcases Int.lt_or_le q 2 with h2 | h2
    · have HE : Hid (ParE p q 0 0 0 0 3) := .inr (.inl ⟨h, h2, rfl, rfl, rfl, rfl, rfl⟩)
      rw [h] at HC
      clear h e0 k
      go_enter Try.func33, Try.ntmps33
      go_wp2_with (first
        | (go_at_call 21; ((with_reducible refine (HC.out _).mono ?_); rintro e w1 ⟨rfl, hb⟩; obtain ⟨hc, hf⟩ := bcell hb; obtain ⟨hz0, hz1, hz2⟩ : w.heap.size < w1.heap.size ∧ w.heap.size + 1 < w1.heap.size ∧ w.heap.size + 1 + 1 < w1.heap.size := (by have := hb.size; (try simp at this); omega); have HB := Lib.hid ((below3 w _ _ _).trans (hb.mono (by simp; omega))); clear hb))
        | fail)
      refine bodyPost_ret (v := .tuple #[.agg #[.int .i64 0, .int .i64 0], .agg #[.int .i64 0, .int .i64 0], .int .i64 3]) ?_ rfl ⟨0, 0, 0, 0, 3, HE.out, rfl, below_set2 (below_set2 HB.out (by omega) _ _) (by omega) _ _⟩
      simp [results, Try.results33, go_sem, *]
    · have HI : Hid (∀ u e, InvIs p q u e → e = 0 ∧ ∃ x, ParIs p q x u ∧ (p * u - 1).tdiv q = x) := fun u e hh => inv_par k.cop h2 hh
      have HE : Hid (∀ x y, ParIs p q x y → ParE p q x y (p - x) (q - y) 0) := fun x y hx => .inr (.inr ⟨h, h2, hx, rfl, rfl, rfl⟩)
      rw [h] at HC
      clear h e0 k
      go_enter Try.func33, Try.ntmps33
      go_upto_region 9 with (first
        | (go_at_call 21; ((with_reducible refine (HC.out _).mono ?_); rintro e w1 ⟨rfl, hb⟩; obtain ⟨hc, hf⟩ := bcell hb; obtain ⟨hz0, hz1, hz2⟩ : w.heap.size < w1.heap.size ∧ w.heap.size + 1 < w1.heap.size ∧ w.heap.size + 1 + 1 < w1.heap.size := (by have := hb.size; (try simp at this); omega); have HB := Lib.hid ((below3 w _ _ _).trans (hb.mono (by simp; omega))); clear hb))
        | (go_at_call 49; ((with_reducible refine (inverse_yes _ _ _ (by omega) (by omega)).mono ?_); rintro e wx ⟨u, e0, rfl, hi, rfl⟩; obtain ⟨rfl, x, hp, hx⟩ := HI.out _ _ hi; clear hi; have u1 := hp.pos; have u2 := hp.lt; obtain ⟨x1, x2⟩ := hp.bd p1 p2; obtain ⟨m1, m2⟩ := prod_le p1 p2 (show -1073741824 ≤ u by omega) (show u ≤ 1073741824 by omega); have HP := Lib.hid hp; clear hp))
        | fail)
      have hw1 := HB.out.size
      go_region
      go_wp2
      refine bodyPost_ret (v := .tuple #[.agg #[.int .i64 x, .int .i64 u], .agg #[.int .i64 (p - x), .int .i64 (q - u)], .int .i64 0]) ?_ rfl ⟨x, u, p - x, q - u, 0, HE.out _ _ HP.out, rfl, (((below_set2 (below_set2 HB.out (by omega) _ _) (by omega) _ _).alloc (by simp; omega) _).alloc (by simp; omega) _).drew⟩
      simp [results, Try.results33, go_sem, *]
  · rcases cusp_vals p q with h0 | h0 | h0
    · exact absurd h0 h
    all_goals
      have HE : Hid (ParE p q 0 0 0 0 (cuspI p q)) := .inl ⟨h, rfl, rfl, rfl, rfl, rfl⟩
      rw [h0] at HC HE
      clear h h0
      go_enter Try.func33, Try.ntmps33
      go_wp2_with (first
        | (go_at_call 21; ((with_reducible refine (HC.out _).mono ?_); rintro e w1 ⟨rfl, hb⟩; obtain ⟨hc, hf⟩ := bcell hb; obtain ⟨hz0, hz1, hz2⟩ : w.heap.size < w1.heap.size ∧ w.heap.size + 1 < w1.heap.size ∧ w.heap.size + 1 + 1 < w1.heap.size := (by have := hb.size; (try simp at this); omega); have HB := Lib.hid ((below3 w _ _ _).trans (hb.mono (by simp; omega))); clear hb))
        | fail)
      first
        | (refine bodyPost_ret (v := .tuple #[.agg #[.int .i64 0, .int .i64 0], .agg #[.int .i64 0, .int .i64 0], .int .i64 2]) ?_ rfl ⟨0, 0, 0, 0, 2, HE.out, rfl, below_set2 (below_set2 HB.out (by omega) _ _) (by omega) _ _⟩; simp [results, Try.results33, go_sem, *])
        | (refine bodyPost_ret (v := .tuple #[.agg #[.int .i64 0, .int .i64 0], .agg #[.int .i64 0, .int .i64 0], .int .i64 3]) ?_ rfl ⟨0, 0, 0, 0, 3, HE.out, rfl, below_set2 (below_set2 HB.out (by omega) _ _) (by omega) _ _⟩; simp [results, Try.results33, go_sem, *])
end Go.Proofs.Ytbkombklfpjjpaa
