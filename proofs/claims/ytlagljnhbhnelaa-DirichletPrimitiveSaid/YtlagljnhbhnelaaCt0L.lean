/- The contracts of cusps.Count0 and of signature.pairs, for levels. -/
import Derived.Test.YtlagljnhbhnelaaArtL
import Derived.Deep.OwnRows
import Derived.Laws.MakeOwn
import Derived.Deep.Cut
import Derived.WalkSmall
namespace Go.Proofs.Ytlagljnhbhnelaa
open Go.RowKit
set_option linter.unusedVariables false
set_option linter.unusedSimpArgs false

def lvI (n : Int) : Int := if n < 1 ∨ 120 < n then 2 else 0
theorem lv_no {n : Int} (h : n < 1 ∨ 120 < n) : lvI n = 2 := if_pos h
theorem lv_yes {n : Int} (h1 : 1 ≤ n) (h2 : n ≤ 120) : lvI n = 0 := if_neg (by omega)
/-- The divisors of n, ascending. -/
def dvN (n : Nat) : List Nat := (List.range (n + 1)).filter fun d => decide (1 ≤ d) && decide (n % d = 0)
theorem mem_dvN {n x : Nat} (h : 1 ≤ n) : x ∈ dvN n ↔ x ∣ n := by
  unfold dvN
  rw [List.mem_filter, List.mem_range, Bool.and_eq_true, decide_eq_true_eq, decide_eq_true_eq]
  constructor
  · rintro ⟨_, _, h3⟩; exact Nat.dvd_of_mod_eq_zero h3
  · intro hd
    have := Nat.le_of_dvd h hd
    exact ⟨by omega, Nat.pos_of_dvd_of_pos hd h, Nat.mod_eq_zero_of_dvd hd⟩
theorem dvN_asc (n : Nat) : (dvN n).Pairwise (· < ·) := List.Pairwise.filter _ List.pairwise_lt_range
theorem sorted_dvN {n : Nat} {M : List Nat} (h : DivL n M) (hn : 1 ≤ n) : sorted M = dvN n :=
  asc_eq (sorted_asc h.nd) (dvN_asc n) fun x => by rw [(sorted_perm M).mem_iff, h.mem x, mem_dvN hn]
theorem dvN_bd {n : Nat} (h : 1 ≤ n) (n2 : n ≤ 120) : (dvN n).length ≤ 121 ∧ ∀ x ∈ dvN n, 1 ≤ x ∧ x ∣ n ∧ x ≤ 120 := by
  constructor
  · have := List.length_filter_le (fun d => decide (1 ≤ d) && decide (n % d = 0)) (List.range (n + 1))
    rw [List.length_range] at this
    exact Nat.le_trans this (by omega)
  · intro x hx
    have h1 := (mem_dvN h).1 hx
    have h2 := Nat.le_of_dvd h h1
    exact ⟨Nat.pos_of_dvd_of_pos h1 h, h1, by omega⟩
theorem gcdn_any (a b : Nat) (w : World) (ha : (a : Int) ≤ 120) (hb : (b : Int) ≤ 120) : Calls Try.prog 52 #[.int .i64 (a : Int), .int .i64 (b : Int)] w fun e w' => e = .returned (.int .i64 (Nat.gcd a b : Nat)) ∧ ∃ n, w' = w.drewN n := by
  have := gcd_any (a : Int) (b : Int) w (by unfold Mid; omega) (by unfold Mid; omega)
  rwa [show Int.gcd (a : Int) (b : Int) = Nat.gcd a b from rfl] at this
def cuF (n : Nat) : List Nat → Nat → Nat
  | [], x => x
  | d :: D, x => cuF n D (x + phV (Nat.gcd d (n / d)))
def prF (n : Nat) : List Nat → Nat → Nat
  | [], x => x
  | d :: D, x => prF n D (x + phV d * phV (n / d))
theorem cuF_append (n : Nat) : ∀ l m x, cuF n (l ++ m) x = cuF n m (cuF n l x)
  | [], _, _ => rfl
  | p :: l, m, x => cuF_append n l m _
theorem prF_append (n : Nat) : ∀ l m x, prF n (l ++ m) x = prF n m (prF n l x)
  | [], _, _ => rfl
  | p :: l, m, x => prF_append n l m _
def cuV (n : Nat) : Nat := cuF n (dvN n) 0
def prV (n : Nat) : Nat := prF n (dvN n) 0
end Go.Proofs.Ytlagljnhbhnelaa
