/- Plain mathematics of chains: neighbours, and the chain backwards. -/
import Derived.Test.YtbkombklfpjjpaaChM
namespace Go.Proofs.Ytbkombklfpjjpaa

/-- Two cusps are Farey neighbours. -/
def nbR (u v : Int × Int) : Prop := u.1 * v.2 - v.1 * u.2 = 1 ∨ u.1 * v.2 - v.1 * u.2 = -1
theorem nbR_symm {u v : Int × Int} (h : nbR u v) : nbR v u := by
  unfold nbR at *
  omega
/-- All consecutive cusps are Farey neighbours. -/
def NbL : List (Int × Int) → Prop
  | u :: v :: l => nbR u v ∧ NbL (v :: l)
  | _ => True
theorem NbL.tail {u : Int × Int} {l : List (Int × Int)} (h : NbL (u :: l)) : NbL l := by
  cases l with
  | nil => trivial
  | cons v l => exact h.2
theorem NbL.drop : ∀ {l : List (Int × Int)} (k : Nat), NbL l → NbL (l.drop k)
  | l, 0, h => h
  | [], k + 1, _ => by simp [NbL]
  | _ :: l, k + 1, h => NbL.drop (l := l) k h.tail
theorem NbL.app : ∀ {l : List (Int × Int)} {e : Int × Int} {r : List (Int × Int)}, NbL (l ++ [e]) → NbL (e :: r) → NbL (l ++ e :: r)
  | [], _, _, _, h => h
  | [_], _, _, h, k => ⟨h.1, k⟩
  | _ :: v :: l, _, _, h, k => ⟨h.1, NbL.app (l := v :: l) h.2 k⟩
theorem NbL.rev : ∀ {l : List (Int × Int)}, NbL l → NbL l.reverse
  | [], _ => trivial
  | [_], _ => trivial
  | u :: v :: l, h => by
    have ih := NbL.rev (l := v :: l) h.2
    rw [List.reverse_cons] at ih ⊢
    rw [List.reverse_cons, List.append_assoc, List.singleton_append]
    exact NbL.app ih ⟨nbR_symm h.1, trivial⟩
theorem NbL.at_ : ∀ {l : List (Int × Int)}, NbL l → ∀ i (h : i + 1 < l.length), nbR l[i] l[i + 1]
  | u :: v :: l, h, 0, _ => h.1
  | u :: v :: l, h, i + 1, hi => NbL.at_ (l := v :: l) h.2 i (by simpa using hi)
theorem NbL.of : ∀ {l : List (Int × Int)}, (∀ i (h : i + 1 < l.length), nbR l[i] l[i + 1]) → NbL l
  | [], _ => trivial
  | [_], _ => trivial
  | u :: v :: l, h => ⟨h 0 (by simp), NbL.of (l := v :: l) fun i hi => h (i + 1) (by simpa using hi)⟩
theorem chn_form {x y : List (Int × Int)} (h : 1 ≤ cpl x y) : ∃ e, x.drop (cpl x y - 1) = e :: x.drop (cpl x y) ∧ y.drop (cpl x y - 1) = e :: y.drop (cpl x y) ∧ chn x y = (x.drop (cpl x y)).reverse ++ e :: y.drop (cpl x y) := by
  obtain ⟨h1, h2⟩ := cpl_le x y
  obtain ⟨m, hm⟩ : ∃ m, cpl x y = m + 1 := ⟨cpl x y - 1, by omega⟩
  have hx : m < x.length := by omega
  have hy : m < y.length := by omega
  have e := cpl_same x y m (by omega) hx hy
  have d1 : x.drop m = x[m] :: x.drop (m + 1) := List.drop_eq_getElem_cons hx
  have d2 : y.drop m = x[m] :: y.drop (m + 1) := by rw [e]; exact List.drop_eq_getElem_cons hy
  refine ⟨x[m], by rw [hm]; exact d1, by rw [hm]; exact d2, ?_⟩
  unfold chn
  rw [hm, Nat.add_sub_cancel, d1, List.reverse_cons, List.append_assoc, List.singleton_append]
theorem chn_rev {x y : List (Int × Int)} (h : 1 ≤ cpl x y) : chn y x = (chn x y).reverse := by
  obtain ⟨e, e1, e2, e3⟩ := chn_form h
  have h' : 1 ≤ cpl y x := by rw [cpl_comm]; exact h
  obtain ⟨f, f1, f2, f3⟩ := chn_form h'
  rw [cpl_comm y x] at f1 f2 f3
  rw [e1] at f2
  cases f2
  rw [e3, f3]
  simp
theorem chn_nb {x y : List (Int × Int)} (h : 1 ≤ cpl x y) (hx : NbL x) (hy : NbL y) : NbL (chn x y) := by
  obtain ⟨e, e1, e2, e3⟩ := chn_form h
  rw [e3]
  refine NbL.app ?_ ?_
  · have := (hx.drop (cpl x y - 1)).rev
    rw [e1, List.reverse_cons] at this
    exact this
  · rw [← e2]; exact hy.drop _
theorem chn_mem {x y : List (Int × Int)} {z : Int × Int} (hz : z ∈ chn x y) : z ∈ x ∨ z ∈ y := by
  unfold chn at hz
  rcases List.mem_append.1 hz with h | h
  · exact .inl (List.mem_of_mem_drop (List.mem_reverse.1 h))
  · exact .inr (List.mem_of_mem_drop h)
theorem chn_first {x y : List (Int × Int)} (h : 1 ≤ cpl x y) : (chn x y)[0]? = x.getLast? := by
  obtain ⟨h1, _⟩ := cpl_le x y
  unfold chn
  rw [← List.head?_eq_getElem?, List.head?_append, List.head?_reverse, List.getLast?_drop, if_neg (by omega)]
  cases hx : x.getLast? with
  | none =>
    rw [List.getLast?_eq_none_iff] at hx
    subst hx
    simp at h1; omega
  | some z => rfl
theorem chn_last {x y : List (Int × Int)} (h : 1 ≤ cpl x y) : (chn x y).getLast? = y.getLast? := by
  have h' : 1 ≤ cpl y x := by rw [cpl_comm]; exact h
  have := chn_first h'
  rw [chn_rev h, ← List.head?_eq_getElem?, List.head?_reverse] at this
  exact this
theorem chn_len {x y : List (Int × Int)} (h : 1 ≤ cpl x y) : ∃ L, (chn x y).length = L + 1 := by
  obtain ⟨e, _, _, e3⟩ := chn_form h
  rw [e3]
  exact ⟨_, by rw [List.length_append, List.length_cons, ← Nat.add_assoc]⟩
end Go.Proofs.Ytbkombklfpjjpaa
