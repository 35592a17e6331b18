/- Plain mathematics: the place of a point in the list. -/
import Derived.Test.YtgnekmaonnjfkaaSecM
namespace Go.Proofs.Ytgnekmaonnjfkaa
set_option linter.unusedVariables false

/-- The place of (u, v) in a list. -/
def ix : List (Nat × Nat) → Nat → Nat → Nat
  | [], _, _ => 0
  | x :: l, u, v => if x.1 = u ∧ x.2 = v then 0 else ix l u v + 1
theorem ix_get : ∀ {C : List (Nat × Nat)} {u v : Nat}, (u, v) ∈ C → ∃ h : ix C u v < C.length, C[ix C u v] = (u, v)
  | x :: l, u, v, h => by
    unfold ix
    by_cases e : x.1 = u ∧ x.2 = v
    · simp only [if_pos e]
      exact ⟨by simp, Prod.ext e.1 e.2⟩
    · simp only [if_neg e]
      have hm : (u, v) ∈ l := by
        rcases List.mem_cons.1 h with h | h
        · exact absurd (by rw [← h]; exact ⟨rfl, rfl⟩) e
        · exact h
      obtain ⟨h1, h2⟩ := ix_get hm
      exact ⟨by simp; exact h1, by simpa using h2⟩
theorem ix_first : ∀ {C : List (Nat × Nat)} {u v j : Nat} (hj : j < C.length), j < ix C u v → ¬ (C[j].1 = u ∧ C[j].2 = v)
  | [], _, _, j, hj, _ => absurd hj (by simp)
  | x :: l, u, v, 0, hj, h => by
    unfold ix at h
    intro e
    rw [if_pos (by simpa using e)] at h
    exact absurd h (by simp)
  | x :: l, u, v, j + 1, hj, h => by
    unfold ix at h
    by_cases e : x.1 = u ∧ x.2 = v
    · rw [if_pos e] at h; exact absurd h (by simp)
    · rw [if_neg e] at h
      have := ix_first (C := l) (u := u) (v := v) (j := j) (by simpa using hj) (by omega)
      simpa using this
theorem row_nodup (n u : Nat) : (row n u).Nodup := List.Pairwise.filter _ List.nodup_range
theorem ptu_lt {n u x y : Nat} (h : (x, y) ∈ ptu n u) : x < u := by
  unfold ptu at h
  rw [List.mem_flatMap] at h
  obtain ⟨u', h1, h2⟩ := h
  rw [List.mem_map] at h2
  obtain ⟨v', _, h4⟩ := h2
  cases h4
  exact List.mem_range.1 h1
theorem ptu_nodup (n : Nat) : ∀ u, (ptu n u).Nodup
  | 0 => List.nodup_nil
  | u + 1 => by
    rw [ptu_succ, List.nodup_append]
    refine ⟨ptu_nodup n u, ?_, ?_⟩
    · exact List.Pairwise.map _ (fun a b hab e => hab (by cases e; rfl)) (row_nodup n u)
    · rintro ⟨x, y⟩ h1 b h2 e
      rw [← e, List.mem_map] at h2
      obtain ⟨v', _, h4⟩ := h2
      cases h4
      exact absurd (ptu_lt h1) (Nat.lt_irrefl _)
theorem pts_nodup (n : Nat) : (pts n).Nodup := ptu_nodup n n
theorem ix_at {C : List (Nat × Nat)} (hn : C.Nodup) {i : Nat} (hi : i < C.length) : ix C C[i].1 C[i].2 = i := by
  obtain ⟨h1, h2⟩ := ix_get (C := C) (u := C[i].1) (v := C[i].2) (List.getElem_mem hi)
  rcases Nat.lt_trichotomy (ix C C[i].1 C[i].2) i with h | h | h
  · exact absurd h2 (List.pairwise_iff_getElem.1 hn _ _ h1 hi h)
  · exact h
  · exact absurd h2.symm (List.pairwise_iff_getElem.1 hn _ _ hi h1 h)
theorem ix_inj {C : List (Nat × Nat)} {u v u' v' : Nat} (h : (u, v) ∈ C) (h' : (u', v') ∈ C) (e : ix C u v = ix C u' v') : u = u' ∧ v = v' := by
  obtain ⟨h1, h2⟩ := ix_get h
  obtain ⟨h3, h4⟩ := ix_get h'
  have : C[ix C u v] = C[ix C u' v'] := by congr 1
  rw [h2, h4] at this
  cases this
  exact ⟨rfl, rfl⟩
end Go.Proofs.Ytgnekmaonnjfkaa
