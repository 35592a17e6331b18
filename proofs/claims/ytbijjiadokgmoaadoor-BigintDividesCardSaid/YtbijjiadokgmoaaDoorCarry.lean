/- Sums, differences and multiples, digit by digit in place. -/
import Derived.Test.YtbijjiadokgmoaaDoorDigits
namespace Go.Proofs.YtbijjiadokgmoaaDoor

/-- The first i digits of z have been replaced. -/
structure Upto (z zi : List Nat) (i : Nat) : Prop where
  len : zi.length = z.length
  dgs : Dgs zi
  rest : zi.drop i = z.drop i
theorem Upto.start {z : List Nat} (h : Dgs z) : Upto z z 0 := ⟨rfl, h, rfl⟩
theorem Upto.get {z zi : List Nat} {i : Nat} (h : Upto z zi i) (hi : i < z.length) : zi[i]'(by rw [h.len]; exact hi) = z[i] := by
  have h1 : (zi.drop i)[0]? = (z.drop i)[0]? := by rw [h.rest]
  rw [List.getElem?_drop, List.getElem?_drop, Nat.add_zero, List.getElem?_eq_getElem hi, List.getElem?_eq_getElem (by rw [h.len]; exact hi)] at h1
  injection h1
theorem Upto.set {z zi : List Nat} {i s : Nat} (h : Upto z zi i) (hi : i < z.length) (hs : s < 4294967296) :
    Upto z (zi.set i s) (i + 1) ∧ val ((zi.set i s).take (i + 1)) = val (zi.take i) + 4294967296 ^ i * s ∧ val (z.take (i + 1)) = val (z.take i) + 4294967296 ^ i * z[i] := by
  have hi2 : i < zi.length := by rw [h.len]; exact hi
  refine ⟨⟨by rw [List.length_set]; exact h.len, fun x hx => ?_, ?_⟩, ?_, val_take_succ hi⟩
  · rcases List.mem_or_eq_of_mem_set hx with h1 | h1
    · exact h.dgs x h1
    · rw [h1]; exact hs
  · rw [List.drop_set_of_lt (by omega)]
    have h1 := congrArg (List.drop 1) h.rest
    rwa [List.drop_drop, List.drop_drop] at h1
  · rw [val_take_succ (by rw [List.length_set]; exact hi2), List.getElem_set_self, List.take_set_of_le (by omega)]
theorem Upto.step {z zi : List Nat} {i : Nat} (h : Upto z zi i) : Upto z zi (i + 1) := by
  refine ⟨h.len, h.dgs, ?_⟩
  have h1 := congrArg (List.drop 1) h.rest
  rwa [List.drop_drop, List.drop_drop] at h1
theorem val_take_get (y : List Nat) (i : Nat) : val (y.take (i + 1)) = val (y.take i) + 4294967296 ^ i * y.getD i 0 := by
  rcases Nat.lt_or_ge i y.length with h | h
  · rw [val_take_succ h, List.getD_eq_getElem?_getD, List.getElem?_eq_getElem h]; rfl
  · rw [List.take_of_length_le (by omega), List.take_of_length_le h, List.getD_eq_getElem?_getD, List.getElem?_eq_none h]; simp

/-- Adding y to z: i digits are done, c is carried. -/
structure Adds (z y zi : List Nat) (i c : Nat) : Prop where
  up : Upto z zi i
  one : c ≤ 1
  eq : val (zi.take i) + 4294967296 ^ i * c = val (z.take i) + val (y.take i)
theorem Adds.start {z : List Nat} (y : List Nat) (h : Dgs z) : Adds z y z 0 0 := ⟨.start h, by omega, by simp [val]⟩
theorem mul4 {P a b c s e : Nat} (h : a + b + c = s + 4294967296 * e) : P * a + P * b + P * c = P * s + P * 4294967296 * e := by
  have := congrArg (P * ·) h
  simp only [Nat.mul_add] at this
  rw [Nat.mul_assoc]; omega
theorem Adds.step {z y zi : List Nat} {i c s e : Nat} (h : Adds z y zi i c) (hi : i < z.length) (hs : s < 4294967296) (he : e ≤ 1) (hq : z[i] + y.getD i 0 + c = s + 4294967296 * e) : Adds z y (zi.set i s) (i + 1) e := by
  obtain ⟨h1, h2, h3⟩ := h.up.set hi hs
  refine ⟨h1, he, ?_⟩
  rw [h2, h3, val_take_get, Nat.pow_succ]
  have := mul4 (P := 4294967296 ^ i) hq
  have := h.eq
  omega
/-- Without a carry the rest stays. -/
theorem Adds.done {z y zi : List Nat} {i c : Nat} (h : Adds z y zi i c) (hi : i ≤ z.length) (hy : y.length ≤ i) (hc : c = 0 ∨ i = z.length) : val zi + 4294967296 ^ z.length * c = val z + val y := by
  have e := h.eq
  rw [List.take_of_length_le hy] at e
  have e1 := val_split zi i (by rw [h.up.len]; exact hi)
  have e2 := val_split z i hi
  rw [h.up.rest] at e1
  rcases hc with rfl | rfl
  · omega
  · simp only [List.drop_length, val] at e1 e2
    omega

/-- Subtracting y from z. -/
structure Subs (z y zi : List Nat) (i c : Nat) : Prop where
  up : Upto z zi i
  one : c ≤ 1
  eq : val (zi.take i) + val (y.take i) = val (z.take i) + 4294967296 ^ i * c
theorem Subs.start {z : List Nat} (y : List Nat) (h : Dgs z) : Subs z y z 0 0 := ⟨.start h, by omega, by simp [val]⟩
theorem Subs.step {z y zi : List Nat} {i c s e : Nat} (h : Subs z y zi i c) (hi : i < z.length) (hs : s < 4294967296) (he : e ≤ 1) (hq : s + y.getD i 0 + c = z[i] + 4294967296 * e) : Subs z y (zi.set i s) (i + 1) e := by
  obtain ⟨h1, h2, h3⟩ := h.up.set hi hs
  refine ⟨h1, he, ?_⟩
  rw [h2, h3, val_take_get, Nat.pow_succ]
  have := mul4 (P := 4294967296 ^ i) hq
  have := h.eq
  omega
theorem Subs.done {z y zi : List Nat} {i c : Nat} (h : Subs z y zi i c) (hi : i ≤ z.length) (hy : y.length ≤ i) (hc : c = 0 ∨ i = z.length) : val zi + val y = val z + 4294967296 ^ z.length * c := by
  have e := h.eq
  rw [List.take_of_length_le hy] at e
  have e1 := val_split zi i (by rw [h.up.len]; exact hi)
  have e2 := val_split z i hi
  rw [h.up.rest] at e1
  rcases hc with rfl | rfl
  · omega
  · simp only [List.drop_length, val] at e1 e2
    omega
theorem Subs.exact {z y zi : List Nat} {c : Nat} (hz : Dgs zi) (hl : zi.length = z.length) (hc : c ≤ 1) (h : val zi + val y = val z + 4294967296 ^ z.length * c) (hle : val y ≤ val z) : c = 0 ∧ val zi = val z - val y := by
  have := val_lt hz
  rw [hl] at this
  rcases (show c = 0 ∨ c = 1 by omega) with rfl | rfl
  · exact ⟨rfl, by omega⟩
  · omega

/-- Adding x * d to z. -/
structure Mults (z x : List Nat) (d : Nat) (zi : List Nat) (i c : Nat) : Prop where
  up : Upto z zi i
  small : c < 4294967296
  eq : val (zi.take i) + 4294967296 ^ i * c = val (z.take i) + d * val (x.take i)
theorem Mults.start {z : List Nat} (x : List Nat) (d : Nat) (h : Dgs z) : Mults z x d z 0 0 := ⟨.start h, by omega, by simp [val]⟩
theorem Mults.step {z x zi : List Nat} {d i c s e : Nat} (h : Mults z x d zi i c) (hi : i < z.length) (hs : s < 4294967296) (he : e < 4294967296) (hq : d * x.getD i 0 + z[i] + c = s + 4294967296 * e) : Mults z x d (zi.set i s) (i + 1) e := by
  obtain ⟨h1, h2, h3⟩ := h.up.set hi hs
  refine ⟨h1, he, ?_⟩
  rw [h2, h3, val_take_get, Nat.pow_succ]
  have h4 := mul4 (P := 4294967296 ^ i) hq
  have h5 := h.eq
  rw [Nat.mul_add, ← Nat.mul_assoc d, Nat.mul_comm d (4294967296 ^ i), Nat.mul_assoc (4294967296 ^ i) d]
  omega
theorem Mults.done {z x zi : List Nat} {d c : Nat} (h : Mults z x d zi z.length c) (hx : x.length ≤ z.length) : val zi + 4294967296 ^ z.length * c = val z + d * val x := by
  have e := h.eq
  rwa [List.take_of_length_le hx, List.take_of_length_le (by rw [h.up.len]; omega), List.take_length] at e
end Go.Proofs.YtbijjiadokgmoaaDoor
