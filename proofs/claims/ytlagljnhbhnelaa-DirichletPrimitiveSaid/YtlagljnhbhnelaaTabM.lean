/- Tables of characters: what tableOf answers, as plain lists; decided for quadratic characters and their extensions to 60. -/
import Derived.Test.YtlagljnhbhnelaaGnJ
namespace Go.Proofs.Ytlagljnhbhnelaa
set_option linter.unusedVariables false

/-- The common modulus of the logarithms. -/
def tbM (G : List (Nat × Nat)) : Nat := G.foldl (fun m g => Nat.lcm m g.2) 1
/-- The powers of one generator from one unit on. -/
def tbP (n v : Nat) (st : Int) (m : Nat) : Nat → Nat → List Int × List Nat → List Int × List Nat
  | 0, _, s => s
  | j + 1, a, s => tbP n v st m j (a * v % n) (s.1.set (a * v % n) ((s.1.getD a 0 + st) % (m : Int)), s.2 ++ [a * v % n])
def tbU (n v o : Nat) (st : Int) (m : Nat) : List Nat → List Int × List Nat → List Int × List Nat
  | [], s => s
  | a :: l, s => tbU n v o st m l (tbP n v st m (o - 1) a s)
def tbG (n m : Nat) : List (Nat × Nat) → List Int → List Int × List Nat → List Int × List Nat
  | g :: G, x :: E, s => tbG n m G E (tbU n g.1 g.2 (x * ((m / g.2 : Nat) : Int)) m s.2 s)
  | _, _, s => s
/-- The logarithms of a character. -/
def tbV (n : Nat) (E : List Int) : List Int := (tbG n (tbM (gensV n)) (gensV n) E ((List.replicate n (-1)).set (1 % n) 0, [1 % n])).1
def kv (D : Int) (a : Nat) : Int := if kron D (a : Int) = 1 then 0 else 1
/-- What a quadratic character's table is. -/
def tbOk (D : Int) (n : Nat) (E : List Int) : Bool :=
  decide ((tbV n E).length = n) && (List.range n).all fun a => if Nat.gcd a n = 1 then decide ((tbV n E).getD a 0 * 2 = (tbM (gensV n) : Int) * kv D a) else decide ((tbV n E).getD a 0 = -1)
/-- The exponents that Extend answers. -/
def exE (D : Int) (n : Nat) : List Int := (gensV n).map fun g => (tbV D.natAbs (quE D D.natAbs)).getD (g.1 % D.natAbs) 0 * (g.2 : Int) / (tbM (gensV D.natAbs) : Int)
def fd6 : List Int := ((List.range 121).map fun (i : Nat) => (i : Int) - 60).filter fdB
def tbA (D : Int) : Bool := tbOk D D.natAbs (quE D D.natAbs)
set_option maxRecDepth 1000000 in
theorem tab_quad : (fd6.all tbA) = true := by decide +kernel
def tbB (D : Int) : Bool := (List.range 60).all fun i => if (i + 1) % D.natAbs = 0 then tbOk D (i + 1) (exE D (i + 1)) else true
set_option maxRecDepth 1000000 in
theorem tab_ext : (fd6.all tbB) = true := by decide +kernel
theorem fd6_mem {D : Int} (d1 : -60 ≤ D) (d2 : D ≤ 60) (h : fdB D = true) : D ∈ fd6 := by
  unfold fd6
  rw [List.mem_filter]
  refine ⟨List.mem_map.2 ⟨(D + 60).toNat, List.mem_range.2 (by omega), by omega⟩, h⟩
/-- The table of the quadratic character. -/
theorem tab_q {D : Int} (d1 : -60 ≤ D) (d2 : D ≤ 60) (h : fdB D = true) : tbOk D D.natAbs (quE D D.natAbs) = true := List.all_eq_true.1 tab_quad D (fd6_mem d1 d2 h)
/-- The table of its extension to n. -/
theorem tab_e {D : Int} {n : Nat} (d1 : -60 ≤ D) (d2 : D ≤ 60) (h : fdB D = true) (n1 : 1 ≤ n) (n2 : n ≤ 60) (hn : n % D.natAbs = 0) : tbOk D n (exE D n) = true := by
  have h1 := List.all_eq_true.1 tab_ext D (fd6_mem d1 d2 h)
  have h2 := List.all_eq_true.1 h1 (n - 1) (List.mem_range.2 (by omega))
  rw [show n - 1 + 1 = n by omega, if_pos hn] at h2
  exact h2
end Go.Proofs.Ytlagljnhbhnelaa
