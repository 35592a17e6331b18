/- Coset actions, plain mathematics: permutations of 0 .. n-1, orbits, cycles, the breadth-first search. -/
import Derived.Test.YtmikhkolbkdnpaaCommon
namespace Go.Proofs.Ytmikhkolbkdnpaa

/-- The k-th iterate. -/
def itr (f : Nat → Nat) : Nat → Nat → Nat
  | 0, i => i
  | k + 1, i => f (itr f k i)
theorem itr_add (f : Nat → Nat) (i : Nat) (a : Nat) : ∀ b, itr f (a + b) i = itr f b (itr f a i)
  | 0 => rfl
  | b + 1 => by show f (itr f (a + b) i) = f (itr f b (itr f a i)); rw [itr_add f i a b]
theorem itr_one (f : Nat → Nat) (i : Nat) : itr f 1 i = f i := rfl
/-- A permutation of 0 .. n-1. -/
structure Prm (f : Nat → Nat) (n : Nat) : Prop where
  lt : ∀ i, i < n → f i < n
  inj : ∀ i j, i < n → j < n → f i = f j → i = j
theorem Prm.itr_lt {f : Nat → Nat} {n : Nat} (h : Prm f n) {i : Nat} (hi : i < n) : ∀ k, itr f k i < n
  | 0 => hi
  | k + 1 => h.lt _ (h.itr_lt hi k)
theorem Prm.itr_inj {f : Nat → Nat} {n : Nat} (h : Prm f n) {i j : Nat} (hi : i < n) (hj : j < n) : ∀ k, itr f k i = itr f k j → i = j
  | 0, e => e
  | k + 1, e => h.itr_inj hi hj k (h.inj _ _ (h.itr_lt hi k) (h.itr_lt hj k) e)
/-- c is the length of the cycle of i. -/
structure IsPer (f : Nat → Nat) (i c : Nat) : Prop where
  pos : 1 ≤ c
  back : itr f c i = i
  least : ∀ j, 1 ≤ j → j < c → itr f j i ≠ i
theorem least_of {p : Nat → Prop} : ∀ n, (∃ k, k ≤ n ∧ p k) → ∃ k, k ≤ n ∧ p k ∧ ∀ j, j < k → ¬ p j
  | 0, ⟨k, hk, h⟩ => ⟨k, hk, h, fun j hj => by omega⟩
  | n + 1, ⟨k, hk, h⟩ => by
    by_cases h1 : ∃ k, k ≤ n ∧ p k
    · obtain ⟨k', a, b, c⟩ := least_of n h1
      exact ⟨k', by omega, b, c⟩
    · refine ⟨k, hk, h, fun j hj hp => h1 ⟨j, by omega, hp⟩⟩
theorem not_nodup {g : Nat → Nat} : ∀ m, ¬ ((List.range m).map g).Nodup → ∃ a b, a < b ∧ b < m ∧ g a = g b
  | 0, h => by simp at h
  | m + 1, h => by
    by_cases h1 : ((List.range m).map g).Nodup
    · have : g m ∈ (List.range m).map g := by
        refine Decidable.byContradiction fun h2 => h ?_
        rw [List.range_succ, List.map_append, List.nodup_append]
        refine ⟨h1, by simp, fun a ha b hb e => ?_⟩
        simp only [List.map_cons, List.map_nil, List.mem_singleton] at hb
        subst hb; subst e
        exact h2 ha
      obtain ⟨a, ha, e⟩ := List.mem_map.1 this
      exact ⟨a, m, List.mem_range.1 ha, by omega, e⟩
    · obtain ⟨a, b, h2, h3, h4⟩ := not_nodup m h1
      exact ⟨a, b, h2, by omega, h4⟩
theorem per_ex {f : Nat → Nat} {n : Nat} (h : Prm f n) {i : Nat} (hi : i < n) : ∃ c, c ≤ n ∧ IsPer f i c := by
  have hd : ¬ ((List.range (n + 1)).map fun k => itr f k i).Nodup := fun hd => by
    have := List.Nodup.length_le_of_subset (l₂ := List.range n) hd fun x hx => by
      obtain ⟨k, _, rfl⟩ := List.mem_map.1 hx
      exact List.mem_range.2 (h.itr_lt hi k)
    simp at this
    omega
  obtain ⟨a, b, hab, hb, e⟩ := not_nodup _ hd
  have e2 : i = itr f (b - a) i := by
    refine h.itr_inj hi (h.itr_lt hi _) a ?_
    rw [← itr_add, show b - a + a = b by omega]
    exact e
  obtain ⟨c, h1, ⟨h2, h3⟩, h4⟩ := least_of (p := fun c => 1 ≤ c ∧ itr f c i = i) n ⟨b - a, by omega, by omega, e2.symm⟩
  exact ⟨c, h1, ⟨h2, h3, fun j j1 j2 e => h4 j j2 ⟨j1, e⟩⟩⟩
theorem IsPer.uniq {f : Nat → Nat} {i c d : Nat} (h : IsPer f i c) (h' : IsPer f i d) : c = d := by
  rcases Nat.lt_trichotomy c d with e | e | e
  · exact absurd h.back (h'.least c h.pos e)
  · exact e
  · exact absurd h'.back (h.least d h'.pos e)
theorem IsPer.mul {f : Nat → Nat} {i c : Nat} (h : IsPer f i c) : ∀ q, itr f (c * q) i = i
  | 0 => rfl
  | q + 1 => by rw [Nat.mul_succ, itr_add, h.mul q, h.back]
theorem IsPer.mod {f : Nat → Nat} {i c : Nat} (h : IsPer f i c) (k : Nat) : itr f k i = itr f (k % c) i := by
  have := itr_add f i (c * (k / c)) (k % c)
  rw [Nat.div_add_mod, h.mul] at this
  exact this
/-- j lies on the cycle of i. -/
def onC (f : Nat → Nat) (i j : Nat) : Prop := ∃ k, itr f k i = j
theorem onC_refl (f : Nat → Nat) (i : Nat) : onC f i i := ⟨0, rfl⟩
theorem onC_step {f : Nat → Nat} {i j : Nat} : onC f i j → onC f i (f j) := fun ⟨k, e⟩ => ⟨k + 1, by show f (itr f k i) = _; rw [e]⟩
theorem onC_trans {f : Nat → Nat} {i j k : Nat} : onC f i j → onC f j k → onC f i k := fun ⟨a, e⟩ ⟨b, e'⟩ => ⟨a + b, by rw [itr_add, e, e']⟩
theorem onC_lt {f : Nat → Nat} {n i j : Nat} (h : Prm f n) (hi : i < n) : onC f i j → ∃ k, k < n ∧ itr f k i = j := fun ⟨k, e⟩ => by
  obtain ⟨c, h1, h2⟩ := per_ex h hi
  exact ⟨k % c, Nat.lt_of_lt_of_le (Nat.mod_lt _ h2.pos) h1, by rw [← h2.mod, e]⟩
theorem onC_bd {f : Nat → Nat} {n i j : Nat} (h : Prm f n) (hi : i < n) : onC f i j → j < n := fun ⟨k, e⟩ => by rw [← e]; exact h.itr_lt hi k
theorem onC_symm {f : Nat → Nat} {n i j : Nat} (h : Prm f n) (hi : i < n) : onC f i j → onC f j i := fun ⟨k, e⟩ => by
  obtain ⟨c, h1, h2⟩ := per_ex h hi
  refine ⟨c - k % c, ?_⟩
  rw [← e, h2.mod k, ← itr_add, show k % c + (c - k % c) = c by have := Nat.mod_lt k h2.pos; omega, h2.back]
/-- The cycle as a list. -/
def cyL (f : Nat → Nat) (i c : Nat) : List Nat := (List.range c).map fun k => itr f k i
theorem cyL_mem {f : Nat → Nat} {i c j : Nat} (h : IsPer f i c) : j ∈ cyL f i c ↔ onC f i j := by
  unfold cyL onC
  rw [List.mem_map]
  exact ⟨fun ⟨k, _, e⟩ => ⟨k, e⟩, fun ⟨k, e⟩ => ⟨k % c, List.mem_range.2 (Nat.mod_lt _ h.pos), by rw [← h.mod, e]⟩⟩
theorem cyL_nodup {f : Nat → Nat} {n i c : Nat} (hp : Prm f n) (hi : i < n) (h : IsPer f i c) : (cyL f i c).Nodup := by
  refine Decidable.byContradiction fun hd => ?_
  obtain ⟨a, b, hab, hb, e⟩ := not_nodup _ hd
  have e2 : i = itr f (b - a) i := by
    refine hp.itr_inj hi (hp.itr_lt hi _) a ?_
    rw [← itr_add, show b - a + a = b by omega]
    exact e
  exact h.least (b - a) (by omega) (by omega) e2.symm
/-- The breadth-first search. -/
def vis (l : List Nat) (x : Nat) : List Nat := if x ∈ l then l else l ++ [x]
def bst (g f : Nat → Nat) (i : Nat) : Nat → List Nat
  | 0 => [i]
  | k + 1 => if k < (bst g f i k).length then vis (vis (bst g f i k) (g ((bst g f i k).getD k 0))) (f ((bst g f i k).getD k 0)) else bst g f i k
theorem vis_len (l : List Nat) (x : Nat) : l.length ≤ (vis l x).length := by unfold vis; split <;> simp
theorem vis_get {l : List Nat} {x k : Nat} (hk : k < l.length) : (vis l x).getD k 0 = l.getD k 0 := by
  unfold vis; split
  · rfl
  · simp [List.getD_eq_getElem?_getD, List.getElem?_append_left hk]
theorem vis_mem {l : List Nat} {x y : Nat} : y ∈ vis l x ↔ y ∈ l ∨ y = x := by
  unfold vis; split
  · exact ⟨.inl, fun h => h.elim id fun e => by rw [e]; assumption⟩
  · simp
theorem vis_nodup {l : List Nat} {x : Nat} (h : l.Nodup) : (vis l x).Nodup := by
  unfold vis; split
  · exact h
  · rw [List.nodup_append]
    exact ⟨h, by simp, fun a ha b hb e => by simp at hb; subst hb; subst e; contradiction⟩
theorem bst_nodup (g f : Nat → Nat) (i : Nat) : ∀ k, (bst g f i k).Nodup
  | 0 => by simp [bst]
  | k + 1 => by
    unfold bst; split
    · exact vis_nodup (vis_nodup (bst_nodup g f i k))
    · exact bst_nodup g f i k
theorem getD_mem {l : List Nat} {k : Nat} (h : k < l.length) : l.getD k 0 ∈ l := by
  rw [List.getD_eq_getElem?_getD, List.getElem?_eq_getElem h]; exact List.getElem_mem h
theorem bst_lt {g f : Nat → Nat} {n i : Nat} (hg : Prm g n) (hf : Prm f n) (hi : i < n) : ∀ k, ∀ x ∈ bst g f i k, x < n
  | 0, x, h => by simp [bst] at h; omega
  | k + 1, x, h => by
    unfold bst at h; split at h
    · rename_i hk
      have := bst_lt hg hf hi k _ (getD_mem hk)
      rcases vis_mem.1 h with h | rfl
      · rcases vis_mem.1 h with h | rfl
        · exact bst_lt hg hf hi k x h
        · exact hg.lt _ this
      · exact hf.lt _ this
    · exact bst_lt hg hf hi k x h
theorem bst_le {g f : Nat → Nat} {n i : Nat} (hg : Prm g n) (hf : Prm f n) (hi : i < n) (k : Nat) : (bst g f i k).length ≤ n := by
  have := List.Nodup.length_le_of_subset (l₂ := List.range n) (bst_nodup g f i k) fun x hx => List.mem_range.2 (bst_lt hg hf hi k x hx)
  simpa using this
theorem bst_pos (g f : Nat → Nat) (i : Nat) : ∀ k, 1 ≤ (bst g f i k).length
  | 0 => by simp [bst]
  | k + 1 => by
    have := bst_pos g f i k
    unfold bst; split
    · have h1 := vis_len (bst g f i k) (g ((bst g f i k).getD k 0))
      have h2 := vis_len (vis (bst g f i k) (g ((bst g f i k).getD k 0))) (f ((bst g f i k).getD k 0))
      omega
    · exact this
theorem bst_stay {g f : Nat → Nat} {i k : Nat} (h : (bst g f i k).length ≤ k) : ∀ m, k ≤ m → bst g f i m = bst g f i k
  | 0, hm => by rw [show k = 0 by omega]
  | m + 1, hm => by
    rcases Nat.lt_or_ge m k with h1 | h1
    · rw [show k = m + 1 by omega]
    · have ih := bst_stay h m h1
      show (if m < (bst g f i m).length then _ else bst g f i m) = _
      rw [ih, if_neg (by omega)]
theorem bst_step {g f : Nat → Nat} {i k : Nat} (h : k < (bst g f i k).length) : bst g f i (k + 1) = vis (vis (bst g f i k) (g ((bst g f i k).getD k 0))) (f ((bst g f i k).getD k 0)) := if_pos h
/-- Where the search has reached every point, a property that S and T carry on holds everywhere. -/
theorem bst_all {g f : Nat → Nat} {n : Nat} (hg : Prm g n) (hf : Prm f n) (h0 : 0 < n) {Q : Nat → Prop} (q0 : Q 0) (qg : ∀ x, x < n → Q x → Q (g x)) (qf : ∀ x, x < n → Q x → Q (f x)) : ∀ k, ∀ x ∈ bst g f 0 k, Q x
  | 0, x, h => by simp [bst] at h; rw [h]; exact q0
  | k + 1, x, h => by
    unfold bst at h; split at h
    · rename_i hk
      have h1 := bst_lt hg hf h0 k _ (getD_mem hk)
      have h2 := bst_all hg hf h0 q0 qg qf k _ (getD_mem hk)
      rcases vis_mem.1 h with h | rfl
      · rcases vis_mem.1 h with h | rfl
        · exact bst_all hg hf h0 q0 qg qf k x h
        · exact qg _ h1 h2
      · exact qf _ h1 h2
    · exact bst_all hg hf h0 q0 qg qf k x h
theorem mem_full {l : List Nat} {n x : Nat} (hd : l.Nodup) (hl : l.length = n) (hb : ∀ y ∈ l, y < n) (hx : x < n) : x ∈ l := by
  refine Decidable.byContradiction fun h => ?_
  have hd2 : (x :: l).Nodup := List.nodup_cons.2 ⟨h, hd⟩
  have := List.Nodup.length_le_of_subset (l₂ := List.range n) hd2 fun y hy => by
    rcases List.mem_cons.1 hy with rfl | hy
    · exact List.mem_range.2 hx
    · exact List.mem_range.2 (hb y hy)
  simp at this
  omega
end Go.Proofs.Ytmikhkolbkdnpaa
