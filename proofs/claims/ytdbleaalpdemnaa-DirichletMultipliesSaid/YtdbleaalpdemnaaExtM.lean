/- Decided facts of quadratic characters and their extensions: exponents, conductors, what Extend and Check meet. -/
import Derived.Test.YtdbleaalpdemnaaTabM
namespace Go.Proofs.Ytdbleaalpdemnaa
set_option linter.unusedVariables false

/-- isPeriod's loop: from a on in steps of f no logarithm is positive. -/
def pdL (T : List Int) (f : Nat) : Nat → Nat → Bool
  | 0, _ => true
  | j + 1, a => if a < T.length then (if 0 < T.getD a 0 then false else pdL T f j (a + f)) else true
/-- What isPeriod answers. -/
def pdV (T : List Int) (f : Nat) : Bool := if T.length % f = 0 then pdL T f T.length (1 % f) else false
/-- What the tables of a quadratic character and of its extension to n give besides. -/
def exOk (D : Int) (n : Nat) : Bool :=
  let T := tbV n (exE D n)
  let T0 := tbV D.natAbs (quE D D.natAbs)
  (ckX n (exE D n) = 0) && (ckX D.natAbs (quE D D.natAbs) = 0) && ((gensV n).all fun g => decide (0 ≤ T0.getD (g.1 % D.natAbs) 0)) && pdV T D.natAbs && ((List.range D.natAbs).all fun f => f = 0 || !pdV T f)
def exB (D : Int) : Bool := (List.range 60).all fun i => if (i + 1) % D.natAbs = 0 then exOk D (i + 1) else true
set_option maxRecDepth 1000000 in
theorem ex_all : (fd6.all exB) = true := by decide +kernel
structure ExF (D : Int) (n : Nat) : Prop where
  ck : ckX n (exE D n) = 0
  ck0 : ckX D.natAbs (quE D D.natAbs) = 0
  g0 : ∀ g ∈ gensV n, 0 ≤ (tbV D.natAbs (quE D D.natAbs)).getD (g.1 % D.natAbs) 0
  pd : pdV (tbV n (exE D n)) D.natAbs = true
  np : ∀ f, 1 ≤ f → f < D.natAbs → pdV (tbV n (exE D n)) f = false
theorem ex_of {D : Int} {n : Nat} (d1 : -60 ≤ D) (d2 : D ≤ 60) (h : fdB D = true) (n1 : 1 ≤ n) (n2 : n ≤ 60) (hn : n % D.natAbs = 0) : ExF D n := by
  have h1 := List.all_eq_true.1 ex_all D (fd6_mem d1 d2 h)
  have h2 := List.all_eq_true.1 h1 (n - 1) (List.mem_range.2 (by omega))
  rw [show n - 1 + 1 = n by omega, if_pos hn] at h2
  unfold exOk at h2
  simp only [Bool.and_eq_true, decide_eq_true_eq] at h2
  obtain ⟨⟨⟨⟨a, b⟩, c⟩, d⟩, e⟩ := h2
  refine ⟨a, b, fun g hg => by simpa using List.all_eq_true.1 c g hg, d, fun f f1 f2 => ?_⟩
  have h3 := List.all_eq_true.1 e f (List.mem_range.2 f2)
  simp only [Bool.or_eq_true, decide_eq_true_eq, Bool.not_eq_true'] at h3
  rcases h3 with h3 | h3
  · omega
  · exact h3
end Go.Proofs.Ytdbleaalpdemnaa
