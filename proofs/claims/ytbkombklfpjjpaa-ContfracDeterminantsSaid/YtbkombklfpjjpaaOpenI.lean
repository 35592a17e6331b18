/- An argument that is a list of integers, opened; its copy by append. -/
import Derived.Test.YtbkombklfpjjpaaOpenM
import Derived.Test.YtbkombklfpjjpaaLawK
import Derived.Laws.AppendOwnNone
namespace Go.Proofs.Ytbkombklfpjjpaa
open Go.ChangeShapes Go.WideShapes Go.ChangeAt Go.RowKit Go.Joins

theorem addr_add (b o k : Nat) : (⟨b, o, none⟩ : Addr).add k = ⟨b, o + k, none⟩ := by unfold Addr.add; split <;> simp_all
set_option maxRecDepth 100000 in
theorem open_ints_arg {H : Type} {enc : TypeId × Value → H} {W : World} {b0 : Nat} {v : Value} {d : DataW H} {p : List MemPlace} (hv : Value.okWide Try.prog W .any b0 25 v) (h : DataW.Trod enc Try.prog W 0 (fun _ => true) true 25 v d p) :
    ∃ (A : Option Addr) (c : Nat) (l : List Int), v = .slice A l.length c ∧ (RdZ W W.heap.size A c l ∧ (A = none → c = 0)) := by
  obtain ⟨a0, l0, c0, rfl⟩ := okWide_slice Try.underlying25 hv
  simp only [Value.okWide, Try.underlying25, Cell.okWide] at hv
  obtain ⟨n, hn⟩ := h
  rcases open_ints Try.underlying25 Try.underlying3 (by kernel_rfl) hn with ⟨e1, _⟩ | ⟨a, len, cap, zs, e1, _, hl, hm, hz, _, hc, _⟩
  · obtain ⟨rfl, rfl, rfl⟩ : a0 = none ∧ l0 = 0 ∧ c0 = 0 := by simpa [Value.cells] using e1
    exact ⟨none, 0, [], rfl, ⟨by simp, by unfold maxLen; omega, fun h0 => by simp at h0, fun _ h0 => by cases h0⟩, fun _ => rfl⟩
  · obtain ⟨rfl, rfl, rfl⟩ : a0 = some a ∧ l0 = len ∧ c0 = cap := by simpa [Value.cells] using e1
    have hs : a.spot = none := by
      simp only [Cell.ok, Try.underlying25] at hv
      exact hv.2.2.2.1
    obtain ⟨bb, o, s⟩ := a
    obtain rfl : s = none := hs
    have hzc : zs.length = c0 := by simpa using hz
    have hlen : (zs.take l0).length = l0 := by rw [List.length_take, Nat.min_eq_left (by omega)]
    refine ⟨some ⟨bb, o, none⟩, c0, zs.take l0, by rw [hlen], ⟨by rw [hlen]; omega, hm, fun h0 => ⟨bb, o, rfl, ?_, fun k hk => ?_⟩, fun a ha => by injection ha with ha; exact ⟨_, _, ha.symm⟩⟩, fun h0 => by cases h0⟩
    · rw [hlen] at h0
      have h1 := hc 0 (by omega)
      exact World.block_lt_of_cell? W _ h1
    · rw [hlen] at hk
      have h1 := hc k (by omega)
      rw [addr_add] at h1
      rw [h1, List.getElem_take, List.getD_eq_getElem?_getD, List.getElem?_eq_getElem (by omega)]
      rfl
theorem own_empty (w : World) : (w.alloc (.cells #[] 3)).ownsRow w.heap.size 3 1 (.slice (some ⟨w.heap.size, 0, none⟩) 0 0) 0 [] :=
  ⟨rfl, .inr ⟨w.heap.size, 0, #[], rfl, Nat.le_refl _, heap_alloc_new w _, Nat.le_refl _, by unfold maxLen; omega, rfl, rfl⟩⟩
/-- 'append([]int{}, l...)': a copy of l. -/
theorem app_copy {w0 : World} {ops : Array Oper} {rest : List Oper} {o : Oper} {a : Act} {Q : Exit → Act → World → Prop} {B c : Nat} {A : Option Addr} {l : List Int} (hgd : o.guard = none) (s x : Operand)
    (ho : o.op = .call { callee := .builtin .append, args := #[s, x], argTypes := #[25, 25] })
    (hs : a.eval s = .slice (some ⟨w0.heap.size, 0, none⟩) 0 0) (hx : a.eval x = .slice A l.length c) (hr : RdZ w0 B A c l) (hB : B ≤ w0.heap.size) (hA : A = none → c = 0) (hl : l.length ≤ 1000)
    (h : ∀ A' c' w', RdZ w' w'.heap.size A' c' l → Below w0.heap.size w0 w' → wpList Try.prog ops Q rest (a.put o.dst (.slice A' l.length c')) w') : wpList Try.prog ops Q (o :: rest) a (w0.alloc (.cells #[] 3)) := by
  obtain ⟨i0, hi, hz0, hz1, hz2⟩ := info_parts Try.infoInt
  have hr1 : RdZ (w0.alloc (.cells #[] 3)) B A c l := hr.below ((below1 w0 _).mono hB)
  cases A with
  | none =>
    obtain rfl := hA rfl
    have hl0 : l = [] := by
      rcases Nat.eq_zero_or_pos l.length with h0 | h0
      · exact List.eq_nil_of_length_eq_zero h0
      · obtain ⟨b, o', e, _⟩ := hr.2.2.1 h0
        cases e
    subst hl0
    refine wpList_append_own_none (w := w0.alloc (.cells #[] 3)) hgd s x 25 ho w0.heap.size 3 i0 1 Try.underlying25 hi _ 0 [] hs (own_empty w0) hx ?_
    exact h (some ⟨w0.heap.size, 0, none⟩) 0 _ ⟨by simp, by unfold maxLen; omega, fun h0 => by simp at h0, fun a ha => by cases ha; exact ⟨_, _, rfl⟩⟩ (below1 _ _)
  | some ad =>
    obtain ⟨b, o', rfl⟩ := hr.2.2.2 ad rfl
    refine wpList_append_own (w0.alloc (.cells #[] 3)) hgd s x 25 ho w0.heap.size 3 i0 (.int .i64 0) 1 8 Try.underlying25 hi hz0 hz1 hz2 rfl (by decide) _ 0 [] hs (own_empty w0) ⟨b, o', none⟩ l.length c (zs l) hx (by simp [zs]) (fun j u hj => ?_) (fun u hu => ?_) (by unfold maxLen; omega) (by omega) (by simp) fun v' w' h1 h2 _ => ?_
    · have hjl : j < l.length := by
        have := (List.getElem?_eq_some_iff.1 hj).1
        simpa [zs] using this
      obtain ⟨b2, o2, e, _, hc⟩ := hr1.at_ hjl
      simp only [Option.some.injEq, Addr.mk.injEq] at e
      obtain ⟨rfl, rfl, _⟩ := e
      rw [zs_get l j hjl] at hj
      rw [addr_add, hc]
      exact hj
    · obtain ⟨x', _, rfl⟩ := List.mem_map.1 hu
      rfl
    · rw [Nat.zero_add, List.nil_append] at h1
      obtain ⟨A', c', rfl, hr'⟩ := own_rdz h1
      refine h A' c' w' hr' ((below1 w0 (.cells #[] 3)).grown h2 (by simp) (fun j hj => ?_))
      have hj' : some w0.heap.size = some j := hj
      cases hj'
      exact Nat.le_refl _
end Go.Proofs.Ytbkombklfpjjpaa
