/- Contracts of both Gcd and of absolute, for numbers whose magnitude is at most 2^62. -/
import Derived.Test.YtlagljnhbhnelaaEntL
import Derived.WalkSpells
import Derived.WalkLawsBesides
namespace Go.Proofs.Ytlagljnhbhnelaa
open Go.RowKit

theorem ret_int {k : IntKind} {a b : Int} (h : a = b) : Ending.returned (.int k a) = .returned (.int k b) := by rw [h]
theorem below_drewN {B : Nat} {a w : World} (h : Below B a w) (n : Nat) : Below B a (w.drewN n) := ⟨h.os, h.tape, h.output, h.size, h.block⟩
/-- A number of at most 62 digits of two. -/
def Mid (a : Int) : Prop := a.natAbs ≤ 4611686018427387904
theorem mid_of {a : Int} (h1 : -4611686018427387904 ≤ a) (h2 : a ≤ 4611686018427387904) : Mid a := by unfold Mid; omega
theorem Mid.lo {a : Int} (h : Mid a) : -4611686018427387904 ≤ a := by unfold Mid at h; omega
theorem Mid.hi {a : Int} (h : Mid a) : a ≤ 4611686018427387904 := by unfold Mid at h; omega
theorem Mid.nat {a : Int} (h : Mid a) : (a.natAbs : Int) ≤ 4611686018427387904 := by unfold Mid at h; omega
theorem gcd_mid {a b : Int} (ha : Mid a) (hb : Mid b) : ((Int.gcd a b : Nat) : Int) ≤ 4611686018427387904 := by
  unfold Mid at *
  by_cases h : a = 0
  · subst h; rw [Int.gcd_zero_left]; omega
  · have := Int.gcd_le_natAbs_left b h
    omega

set_option maxHeartbeats 400000 in
theorem absolute_any (n : Int) (w : World) (h : Mid n) :
    Calls Try.prog 71 #[.int .i64 n] w fun e w' => e = .returned (.int .u64 (n.natAbs : Int)) ∧ w = w' := by
  have h1 := h.lo
  have h2 := h.hi
  clear h
  by_cases h : n < 0
  · go_enter Try.func71, Try.ntmps71
    go_wp2
    go_ret
    exact ⟨ret_int (by simp [IntKind.wrap, IntKind.bits, IntKind.signed]; omega), rfl⟩
  · go_enter Try.func71, Try.ntmps71
    go_wp2
    go_ret
    exact ⟨ret_int (by omega), rfl⟩
theorem gcd_next {p q n : Nat} (h : Nat.gcd p q = n) : Hid (Nat.gcd q (p % q) = n) := by
  show _ = _
  rw [← h, Nat.gcd_comm q, ← Nat.gcd_rec q p, Nat.gcd_comm]
theorem natmod_cast (x y : Nat) : ((x : Int) % (y : Int)) = ((x % y : Nat) : Int) := (Int.natCast_emod x y).symm
theorem ret_nat (p q : Nat) : Value.int .u64 ((p : Int) % (q : Int)) = .int .u64 ((p % q : Nat) : Int) := by rw [natmod_cast]
theorem gcd_out {p : Nat} {a b : Int} (h : Nat.gcd p 0 = Int.gcd a b) : (p : Int) = Int.gcd a b := by rw [← h, Nat.gcd_zero_right]

set_option maxHeartbeats 400000 in
theorem gcd_any (a b : Int) (w : World) (ha : Mid a) (hb : Mid b) :
    Calls Try.prog 52 #[.int .i64 a, .int .i64 b] w fun e w' => e = .returned (.int .i64 (Int.gcd a b)) ∧ ∃ n, w' = w.drewN n := by
  have HA := Lib.hid (fun W => absolute_any a W ha)
  have HB := Lib.hid (fun W => absolute_any b W hb)
  have A1 := ha.nat
  have B1 := hb.nat
  have HG : Hid (∀ p : Nat, Nat.gcd p 0 = Int.gcd a b → (p : Int) = Int.gcd a b ∧ ((p : Int) ≤ 4611686018427387904)) := fun p h => ⟨gcd_out h, by rw [gcd_out h]; exact gcd_mid ha hb⟩
  clear ha hb
  obtain ⟨g, hg⟩ : ∃ g, g = Int.gcd a b := ⟨_, rfl⟩
  rw [← hg] at HG ⊢
  have HN := Lib.hid hg
  clear hg
  go_enter Try.func52, Try.ntmps52
  go_wp2_with (first
    | (go_at_call 71; ((with_reducible refine (HA.out _).mono ?_); rintro e w' ⟨rfl, rfl⟩))
    | (go_at_call 71; ((with_reducible refine (HB.out _).mono ?_); rintro e w' ⟨rfl, rfl⟩))
    | fail)
  go_loopw [5, 6] (fun x y wr => ∃ (p q : Nat), x = .int .u64 p ∧ y = .int .u64 q ∧ (p : Int) ≤ 4611686018427387904 ∧ (q : Int) ≤ 4611686018427387904 ∧ Hid (Nat.gcd p q = g) ∧ ∃ n, wr = w.drewN n) (fun _ y _ => (intOf y).toNat)
  case atStart => exact ⟨a.natAbs, b.natAbs, rfl, rfl, A1, B1, HN.out.symm, 0, rfl⟩
  case round =>
    clear A1 B1 HN
    obtain ⟨p, q, rfl, rfl, hp, hq, HGC, n, rfl⟩ := hrel
    by_cases hz : q = 0
    · subst hz
      have HR := Lib.hid (HG.out p HGC.out)
      have he : ((p : Int) == 9223372036854775808) = false := by rw [beq_eq_false_iff_ne]; omega
      go_wp2
      go_ret
      exact ⟨ret_int HR.out.1, n, rfl⟩
    · have hq0 : 0 < (q : Int) := by omega
      have hq1 : 1 ≤ (q : Int) := by omega
      have hlt := Nat.mod_lt p (show 0 < q by omega)
      have hmod : ((p % q : Nat) : Int) ≤ 4611686018427387904 := by omega
      go_wp2
      go_quiet (fail)
      go_wp2
      go_roundw
      case rel => exact ⟨q, p % q, rfl, ret_nat _ _, hq, hmod, gcd_next HGC.out, _, by rw [World.drewN_drewN]⟩
      case measure => simp [intOf]; omega

theorem gcd_tmod {x y : Int} {g : Nat} (h : Int.gcd x y = g) : Hid (Int.gcd y (x.tmod y) = g) := by
  show _ = _
  rw [← h]
  show Nat.gcd y.natAbs (x.tmod y).natAbs = Nat.gcd x.natAbs y.natAbs
  rw [Int.natAbs_tmod, Nat.gcd_comm y.natAbs, ← Nat.gcd_rec, Nat.gcd_comm]
theorem tmod_mid {x y : Int} (hy : y ≠ 0) (hm : Mid y) : Mid (x.tmod y) := by
  unfold Mid at *
  rw [Int.natAbs_tmod]
  have := Nat.mod_lt x.natAbs (show 0 < y.natAbs by omega)
  omega
theorem tmod_less {x y : Int} (hy : y ≠ 0) : (x.tmod y).natAbs < y.natAbs := by
  rw [Int.natAbs_tmod]
  exact Nat.mod_lt x.natAbs (show 0 < y.natAbs by omega)

set_option maxHeartbeats 400000 in
theorem rGcd_any (a b : Int) (w : World) (ha : Mid a) (hb : Mid b) :
    Calls Try.prog 35 #[.int .i64 a, .int .i64 b] w fun e w' => e = .returned (.int .i64 (Int.gcd a b)) ∧ ∃ n, w' = w.drewN n := by
  have HG : Hid (∀ p : Int, Int.gcd p 0 = Int.gcd a b → (p.natAbs : Int) = Int.gcd a b) := fun p h => by rw [← h, Int.gcd_zero_right]
  obtain ⟨g, hg⟩ : ∃ g, g = Int.gcd a b := ⟨_, rfl⟩
  rw [← hg] at HG ⊢
  have HN := Lib.hid hg
  clear hg
  go_enter Try.func35, Try.ntmps35
  go_wp2
  go_loopw [0, 1] (fun x y wr => ∃ (p q : Int), x = .int .i64 p ∧ y = .int .i64 q ∧ Mid p ∧ Mid q ∧ Hid (Int.gcd p q = g) ∧ ∃ n, wr = w.drewN n) (fun _ y _ => (intOf y).natAbs)
  case atStart => exact ⟨a, b, rfl, rfl, ha, hb, HN.out.symm, 0, rfl⟩
  case round =>
    clear ha hb HN
    obtain ⟨p, q, rfl, rfl, hp, hq, HGC, n, rfl⟩ := hrel
    by_cases hz : q = 0
    · subst hz
      have HR := Lib.hid (HG.out p HGC.out)
      have h1 := hp.lo
      have h2 := hp.hi
      clear hp hq
      go_wp2
      all_goals
        go_ret
        exact ⟨ret_int (by have := HR.out; omega), n, rfl⟩
    · have hne : (q == 0) = false := by simpa using hz
      have hmod := tmod_mid (x := p) hz hq
      have hlt := tmod_less (x := p) hz
      have h1 := hp.lo
      have h2 := hp.hi
      have h3 := hq.lo
      have h4 := hq.hi
      go_wp2
      go_quiet (fail)
      go_wp2
      go_roundw
      case rel => exact ⟨q, p.tmod q, rfl, rfl, hq, hmod, gcd_tmod HGC.out, _, by rw [World.drewN_drewN]⟩
      case measure => exact hlt
end Go.Proofs.Ytlagljnhbhnelaa
