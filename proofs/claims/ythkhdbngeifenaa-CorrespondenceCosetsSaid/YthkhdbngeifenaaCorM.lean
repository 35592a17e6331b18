/- The matrices of the definition of T_n, and their factors: plain lists, and their number. -/
import Derived.Test.YthkhdbngeifenaaCt0L
import Derived.Test.YthkhdbngeifenaaRfD
import Derived.Test.YthkhdbngeifenaaKronC
import Derived.Test.YthkhdbngeifenaaBoxL
namespace Go.Proofs.Ythkhdbngeifenaa
open Go.RowKit
set_option linter.unusedVariables false

def m4c (x : Nat × Nat × Nat) : List Value := [.int .i64 (x.1 : Int), .int .i64 (x.2.1 : Int), .int .i64 0, .int .i64 (x.2.2 : Int)]
def m4s (L : List (Nat × Nat × Nat)) : List Value := L.flatMap m4c
theorem m4s_append (L M : List (Nat × Nat × Nat)) : m4s (L ++ M) = m4s L ++ m4s M := by simp [m4s]
theorem m4s_one (x : Nat × Nat × Nat) : m4s [x] = m4c x := by simp [m4s]
theorem m4s_length (L : List (Nat × Nat × Nat)) : (m4s L).length = L.length * 4 := by
  induction L with
  | nil => rfl
  | cons x L ih => rw [show x :: L = [x] ++ L from rfl, m4s_append, List.length_append, ih, m4s_one, List.length_append]; simp [m4c]; omega
theorem m4s_get : ∀ (L : List (Nat × Nat × Nat)) (k : Nat) (h : k < L.length), (m4s L)[k * 4]? = some (.int .i64 (L[k].1 : Int)) ∧ (m4s L)[k * 4 + 1]? = some (.int .i64 (L[k].2.1 : Int)) ∧ (m4s L)[k * 4 + 2]? = some (.int .i64 0) ∧ (m4s L)[k * 4 + 3]? = some (.int .i64 (L[k].2.2 : Int))
  | [], _, h => by simp at h
  | x :: L, 0, _ => by simp [m4s, m4c]
  | x :: L, k + 1, h => by
    have ih := m4s_get L k (by simpa using h)
    have e : ∀ j, (m4s (x :: L))[(k + 1) * 4 + j]? = (m4s L)[k * 4 + j]? := fun j => by
      rw [show x :: L = [x] ++ L from rfl, m4s_append, m4s_one, List.getElem?_append_right (by simp [m4c]; omega)]
      congr 1
      simp [m4c]; omega
    have e0 := e 0
    simp only [Nat.add_zero] at e0
    rw [e0, e 1, e 2, e 3]
    exact ih
/-- The matrices (a b; 0 q) for b below t. -/
def coT (a q t : Nat) : List (Nat × Nat × Nat) := (List.range t).map fun b => (a, b, q)
theorem coT_succ (a q t : Nat) : coT a q (t + 1) = coT a q t ++ [(a, t, q)] := by unfold coT; rw [List.range_succ, List.map_append]; rfl
theorem coT_len (a q t : Nat) : (coT a q t).length = t := by simp [coT]
def coM (N n : Nat) (L : List Nat) : List (Nat × Nat × Nat) := L.flatMap fun a => if Nat.gcd a N = 1 then coT a (n / a) (n / a) else []
def coF (N n : Nat) (D : Int) (L : List Nat) : List Int := L.flatMap fun a => if Nat.gcd a N = 1 then List.replicate (n / a) (kron D a) else []
theorem coM_push (N n : Nat) (L : List Nat) (a : Nat) : coM N n (L ++ [a]) = coM N n L ++ (if Nat.gcd a N = 1 then coT a (n / a) (n / a) else []) := by simp [coM]
theorem coF_push (N n : Nat) (D : Int) (L : List Nat) (a : Nat) : coF N n D (L ++ [a]) = coF N n D L ++ (if Nat.gcd a N = 1 then List.replicate (n / a) (kron D a) else []) := by simp [coF]
theorem co_same (N n : Nat) (D : Int) : ∀ L : List Nat, (coF N n D L).length = (coM N n L).length
  | [] => rfl
  | a :: L => by
    have ih := co_same N n D L
    rw [show coF N n D (a :: L) = (if Nat.gcd a N = 1 then List.replicate (n / a) (kron D a) else []) ++ coF N n D L from rfl, show coM N n (a :: L) = (if Nat.gcd a N = 1 then coT a (n / a) (n / a) else []) ++ coM N n L from rfl, List.length_append, List.length_append, ih]
    split
    · rw [List.length_replicate, coT_len]
    · rfl
theorem coM_bd (N n : Nat) (hn : n ≤ 128) : ∀ L : List Nat, (coM N n L).length ≤ 128 * L.length
  | [] => Nat.le_refl _
  | a :: L => by
    have ih := coM_bd N n hn L
    rw [show coM N n (a :: L) = (if Nat.gcd a N = 1 then coT a (n / a) (n / a) else []) ++ coM N n L from rfl, List.length_append, List.length_cons]
    have : (if Nat.gcd a N = 1 then coT a (n / a) (n / a) else []).length ≤ 128 := by
      split
      · rw [coT_len]; exact Nat.le_trans (Nat.div_le_self _ _) hn
      · simp
    omega
/-- The number of the matrices, divisor by divisor. -/
def csS (N n : Nat) : Nat → Nat
  | 0 => 0
  | t + 1 => match Nat.beq (n % (t + 1)) 0, Nat.beq (Nat.gcd (t + 1) N) 1 with
    | true, true => n / (t + 1) + csS N n t
    | _, _ => csS N n t
theorem beq_no {a b : Nat} (h : a ≠ b) : Nat.beq a b = false := by
  cases e : Nat.beq a b with
  | false => rfl
  | true => exact absurd (Nat.eq_of_beq_eq_true e) h
theorem beq_yes {a b : Nat} (h : a = b) : Nat.beq a b = true := by subst h; exact Nat.beq_refl a
theorem co_len (N n : Nat) : ∀ t, (coM N n (dvP n t)).length = csS N n t
  | 0 => by rw [dvP_zero]; rfl
  | t + 1 => by
    have ih := co_len N n t
    unfold csS
    by_cases h : n % (t + 1) = 0
    · rw [dvP_yes h, coM_push, List.length_append, ih, beq_yes h]
      by_cases h2 : Nat.gcd (t + 1) N = 1
      · rw [if_pos h2, beq_yes h2, coT_len]; simp only; omega
      · rw [if_neg h2, beq_no h2]; rfl
    · rw [dvP_no h, ih, beq_no h]
def lp (n : Nat) : Nat := if n % 2 = 0 then 2 else if n % 3 = 0 then 3 else if 25 ≤ n ∧ n % 5 = 0 then 5 else if 25 ≤ n ∧ n % 7 = 0 then 7 else n
def tblC (N : Nat) : List Nat := (List.range 65).map fun n => csS N n n
def mulOk (T : List Nat) (a b : Nat) : Bool := match Nat.beq (Nat.gcd a b) 1 with
  | true => Nat.beq (T.getD (a * b) 0) (T.getD a 0 * T.getD b 0)
  | false => true
def rowOk (N : Nat) (T : List Nat) : Bool := (List.range 65).all fun a => Nat.beq a 0 || ((List.range (64 / a + 1)).all fun b => Nat.beq b 0 || mulOk T a b) && (!(Nat.ble 2 a && Nat.beq (lp a) a) || Nat.beq (T.getD a 0) (match Nat.beq (N % a) 0 with | true => a | false => a + 1))
set_option maxRecDepth 100000 in
theorem co_all : (List.range 120).all (fun i => rowOk (i + 1) (tblC (i + 1))) = true := by decide +kernel
theorem tbl_at {N n : Nat} (h : n ≤ 64) : (tblC N).getD n 0 = csS N n n := by
  unfold tblC
  rw [List.getD_eq_getElem?_getD, List.getElem?_map, List.getElem?_range (by omega)]; rfl
theorem row_of {N a : Nat} (n1 : 1 ≤ N) (n2 : N ≤ 120) (a1 : 1 ≤ a) (a2 : a ≤ 64) : ((List.range (64 / a + 1)).all fun b => Nat.beq b 0 || mulOk (tblC N) a b) = true ∧ (!(Nat.ble 2 a && Nat.beq (lp a) a) || Nat.beq ((tblC N).getD a 0) (match Nat.beq (N % a) 0 with | true => a | false => a + 1)) = true := by
  have h := List.all_eq_true.1 co_all (N - 1) (List.mem_range.2 (by omega))
  rw [show N - 1 + 1 = N by omega] at h
  have h2 := List.all_eq_true.1 h a (List.mem_range.2 (by omega))
  rw [beq_no (show a ≠ 0 by omega), Bool.false_or, Bool.and_eq_true] at h2
  exact h2
theorem cs_mul {N a b : Nat} (n1 : 1 ≤ N) (n2 : N ≤ 120) (a1 : 1 ≤ a) (b1 : 1 ≤ b) (hab : a * b ≤ 64) (hg : Nat.gcd a b = 1) : csS N (a * b) (a * b) = csS N a a * csS N b b := by
  have ha : a ≤ 64 := Nat.le_trans (Nat.le_mul_of_pos_right a b1) hab
  have hb : b ≤ 64 := Nat.le_trans (Nat.le_mul_of_pos_left b a1) hab
  have hb2 : b ≤ 64 / a := (Nat.le_div_iff_mul_le a1).2 (by rw [Nat.mul_comm]; exact hab)
  have h := List.all_eq_true.1 (row_of n1 n2 a1 ha).1 b (List.mem_range.2 (by omega))
  rw [beq_no (show b ≠ 0 by omega), Bool.false_or] at h
  unfold mulOk at h
  rw [beq_yes hg] at h
  have := Nat.eq_of_beq_eq_true h
  rwa [tbl_at hab, tbl_at ha, tbl_at hb] at this
theorem cs_prime {N a : Nat} (n1 : 1 ≤ N) (n2 : N ≤ 120) (a1 : 2 ≤ a) (a2 : a ≤ 64) (hp : lp a = a) : csS N a a = if N % a = 0 then a else a + 1 := by
  have h := (row_of n1 n2 (by omega) a2).2
  rw [beq_yes hp, show Nat.ble 2 a = true from Nat.ble_eq_true_of_le a1] at h
  simp only [Bool.and_self, Bool.not_true, Bool.false_or] at h
  have := Nat.eq_of_beq_eq_true h
  rw [tbl_at a2] at this
  rw [this]
  by_cases e : N % a = 0
  · rw [beq_yes e, if_pos e]
  · rw [beq_no e, if_neg e]
end Go.Proofs.Ythkhdbngeifenaa
