/- Lists of digits to base 2^32, least significant first: values, and the digits of a number. -/
namespace Go.Proofs.YtbijjiadokgmoaaDoor

/-- The number with given digits. -/
def val : List Nat → Nat
  | [] => 0
  | d :: l => d + 4294967296 * val l
/-- All are digits. -/
def Dgs (l : List Nat) : Prop := ∀ d ∈ l, d < 4294967296
/-- The digits of a number, without leading zeros. -/
def digs (n : Nat) : List Nat := if n = 0 then [] else n % 4294967296 :: digs (n / 4294967296)
termination_by n
decreasing_by omega

theorem digs_zero : digs 0 = [] := by rw [digs]; simp
theorem digs_pos {n : Nat} (h : n ≠ 0) : digs n = n % 4294967296 :: digs (n / 4294967296) := by rw [digs]; simp [h]
theorem digs_eq_nil {n : Nat} : digs n = [] ↔ n = 0 := by
  constructor
  · intro h
    rcases Nat.eq_zero_or_pos n with h0 | h0
    · exact h0
    · rw [digs_pos (by omega)] at h; cases h
  · rintro rfl; exact digs_zero
theorem val_digs : ∀ n : Nat, val (digs n) = n := by
  intro n
  induction n using Nat.strongRecOn with
  | _ n ih =>
    rcases Nat.eq_zero_or_pos n with h0 | h0
    · subst h0; rw [digs_zero]; rfl
    · rw [digs_pos (by omega), val, ih _ (by omega)]; omega
theorem dgs_digs : ∀ n : Nat, Dgs (digs n) := by
  intro n
  induction n using Nat.strongRecOn with
  | _ n ih =>
    rcases Nat.eq_zero_or_pos n with h0 | h0
    · subst h0; rw [digs_zero]; intro d hd; cases hd
    · rw [digs_pos (by omega)]
      intro d hd
      rcases List.mem_cons.1 hd with rfl | hd
      · omega
      · exact ih _ (by omega) d hd
theorem Dgs.cons {d : Nat} {l : List Nat} (h : Dgs (d :: l)) : d < 4294967296 ∧ Dgs l := ⟨h d (by simp), fun x hx => h x (by simp [hx])⟩
theorem dgs_cons {d : Nat} {l : List Nat} (h : d < 4294967296) (hl : Dgs l) : Dgs (d :: l) := fun x hx => by
  rcases List.mem_cons.1 hx with rfl | hx
  · exact h
  · exact hl x hx
theorem dgs_append {l m : List Nat} (hl : Dgs l) (hm : Dgs m) : Dgs (l ++ m) := fun x hx => by
  rcases List.mem_append.1 hx with hx | hx
  · exact hl x hx
  · exact hm x hx
theorem Dgs.take {l : List Nat} (h : Dgs l) (k : Nat) : Dgs (l.take k) := fun x hx => h x (List.mem_of_mem_take hx)
theorem Dgs.drop {l : List Nat} (h : Dgs l) (k : Nat) : Dgs (l.drop k) := fun x hx => h x (List.mem_of_mem_drop hx)
theorem Dgs.get {l : List Nat} (h : Dgs l) {k : Nat} (hk : k < l.length) : l[k] < 4294967296 := h _ (List.getElem_mem hk)
theorem dgs_nil : Dgs [] := fun x hx => by cases hx
theorem dgs_zeros (n : Nat) : Dgs (List.replicate n 0) := fun x hx => by
  have := List.eq_of_mem_replicate hx; omega

theorem val_append (l m : List Nat) : val (l ++ m) = val l + 4294967296 ^ l.length * val m := by
  induction l with
  | nil => simp [val]
  | cons d l ih => rw [List.cons_append, val, val, ih, List.length_cons, Nat.pow_succ]; grind
theorem val_zeros (n : Nat) : val (List.replicate n 0) = 0 := by
  induction n with
  | zero => rfl
  | succ n ih => rw [List.replicate_succ, val, ih]
theorem val_lt {l : List Nat} (h : Dgs l) : val l < 4294967296 ^ l.length := by
  induction l with
  | nil => simp [val]
  | cons d l ih =>
    have := ih h.cons.2
    have h1 := h.cons.1
    rw [val, List.length_cons, Nat.pow_succ]
    omega
theorem val_zero {l : List Nat} (h : val l = 0) : ∀ x ∈ l, x = 0 := by
  induction l with
  | nil => intro x hx; cases hx
  | cons d l ih =>
    rw [val] at h
    intro x hx
    rcases List.mem_cons.1 hx with rfl | hx
    · omega
    · exact ih (by omega) x hx
/-- Digits without leading zeros are the digits of their value. -/
theorem digs_val {l : List Nat} (h : Dgs l) (ht : ∀ hl : l ≠ [], l.getLast hl ≠ 0) : digs (val l) = l := by
  induction l with
  | nil => exact digs_zero
  | cons d l ih =>
    have hd := h.cons.1
    have hne : val (d :: l) ≠ 0 := by
      intro h0
      exact ht (by simp) (val_zero h0 _ (List.getLast_mem _))
    rw [digs_pos hne]
    have e1 : val (d :: l) % 4294967296 = d := by rw [val]; omega
    have e2 : val (d :: l) / 4294967296 = val l := by rw [val]; omega
    rw [e1, e2, ih h.cons.2 (fun hl => by have := ht (by simp); rwa [List.getLast_cons hl] at this)]
theorem digs_last {n : Nat} (h : digs n ≠ []) : (digs n).getLast h ≠ 0 := by
  induction n using Nat.strongRecOn with
  | _ n ih =>
    have h0 : n ≠ 0 := fun e => h (digs_eq_nil.2 e)
    have e := digs_pos h0
    by_cases h1 : n / 4294967296 = 0
    · have e2 : digs n = [n % 4294967296] := by rw [e, digs_eq_nil.2 h1]
      simp only [e2, List.getLast_singleton]
      omega
    · have hne : digs (n / 4294967296) ≠ [] := fun e => h1 (digs_eq_nil.1 e)
      have := ih _ (by omega) hne
      simp only [e, List.getLast_cons hne]
      exact this
/-- What trim leaves: digits up to the highest that is not 0. -/
theorem take_trim {l : List Nat} (h : Dgs l) {n : Nat} (hn : n ≤ l.length) (hz : ∀ k (hk : k < l.length), n ≤ k → l[k] = 0) (ht : ∀ k (hk : k < l.length), k + 1 = n → l[k] ≠ 0) : l.take n = digs (val l) := by
  have hs : val l = val (l.take n) := by
    conv => lhs; rw [← List.take_append_drop n l, val_append]
    have hd : l.drop n = List.replicate (l.drop n).length 0 := by
      refine List.eq_replicate_of_mem fun x hx => ?_
      obtain ⟨j, hj, rfl⟩ := List.getElem_of_mem hx
      rw [List.getElem_drop]
      exact hz _ _ (by omega)
    rw [hd, val_zeros]; rfl
  rw [hs, digs_val (h.take n)]
  intro hl
  have hlen : (l.take n).length = n := by rw [List.length_take]; omega
  have hn0 : 0 < n := by
    rcases Nat.eq_zero_or_pos n with e | e
    · subst e; simp at hl
    · exact e
  rw [List.getLast_eq_getElem, List.getElem_take]
  exact ht _ (by rw [hlen]; omega) (by rw [hlen]; omega)
theorem digs_inj {m n : Nat} (h : digs m = digs n) : m = n := by rw [← val_digs m, h, val_digs]
theorem val_take_succ {l : List Nat} {k : Nat} (h : k < l.length) : val (l.take (k + 1)) = val (l.take k) + 4294967296 ^ k * l[k] := by
  rw [List.take_succ_eq_append_getElem h, val_append, val, val, List.length_take, Nat.min_eq_left (by omega)]; simp
theorem val_drop {l : List Nat} {k : Nat} (h : k < l.length) : val (l.drop k) = l[k] + 4294967296 * val (l.drop (k + 1)) := by
  rw [← List.getElem_cons_drop h, val]
theorem val_split (l : List Nat) (k : Nat) (h : k ≤ l.length) : val l = val (l.take k) + 4294967296 ^ k * val (l.drop k) := by
  conv => lhs; rw [← List.take_append_drop k l, val_append, List.length_take, Nat.min_eq_left h]
/-- A number below a power of the base has at most as many digits. -/
theorem digs_len {n k : Nat} (h : n < 4294967296 ^ k) : (digs n).length ≤ k := by
  induction k generalizing n with
  | zero =>
    have : n = 0 := by simpa using h
    rw [this, digs_zero]; simp
  | succ k ih =>
    rcases Nat.eq_zero_or_pos n with h0 | h0
    · rw [h0, digs_zero]; simp
    · rw [digs_pos (by omega), List.length_cons]
      have : n / 4294967296 < 4294967296 ^ k := by
        rw [Nat.div_lt_iff_lt_mul (by omega), ← Nat.pow_succ]; exact h
      have := ih this
      omega
theorem digs_len_lt {m n : Nat} (h : (digs m).length < (digs n).length) : m < n := by
  rcases Nat.lt_or_ge m n with h1 | h1
  · exact h1
  · exfalso
    have h2 : n < 4294967296 ^ (digs m).length := by
      have := val_lt (dgs_digs m)
      rw [val_digs] at this
      omega
    have := digs_len h2
    omega
theorem digs_len_mono {m n : Nat} (h : m ≤ n) : (digs m).length ≤ (digs n).length := by
  rcases Nat.lt_or_ge (digs n).length (digs m).length with h1 | h1
  · have := digs_len_lt h1; omega
  · exact h1
theorem lt_digs (n : Nat) : n < 4294967296 ^ (digs n).length := by
  have := val_lt (dgs_digs n)
  rwa [val_digs] at this
/-- Lists of one length are compared at the highest place where they differ. -/
theorem val_lt_of {l m : List Nat} (hl : Dgs l) (hlen : l.length = m.length) {k : Nat} (h1 : k < l.length) (h2 : k < m.length) (hlt : l[k] < m[k]) (he : l.drop (k + 1) = m.drop (k + 1)) : val l < val m := by
  rw [val_split l k (by omega), val_split m k (by omega), val_drop h1, val_drop h2, he]
  have h3 := val_lt (hl.take k)
  rw [List.length_take, Nat.min_eq_left (by omega)] at h3
  have h4 : 4294967296 ^ k * (l[k] + 4294967296 * val (m.drop (k + 1))) + 4294967296 ^ k ≤ 4294967296 ^ k * (m[k] + 4294967296 * val (m.drop (k + 1))) := by
    rw [← Nat.mul_succ]
    exact Nat.mul_le_mul_left _ (by omega)
  omega
theorem digs_one {n : Nat} (h : 0 < n) (h2 : n < 4294967296) : digs n = [n] := by
  rw [digs_pos (by omega), Nat.mod_eq_of_lt h2, Nat.div_eq_of_lt h2, digs_zero]
theorem digs_two {n : Nat} (h : 4294967296 ≤ n) (h2 : n < 18446744073709551616) : digs n = [n % 4294967296, n / 4294967296] := by
  rw [digs_pos (by omega), digs_one (n := n / 4294967296) (by omega) (by omega)]
end Go.Proofs.YtbijjiadokgmoaaDoor
