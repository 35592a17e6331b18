/- The closure of containsPrincipal: a map from matrices modulo n to points. -/
import Derived.Test.YtmikhkolbkdnpaaMapM
import Derived.Test.YtmikhkolbkdnpaaBoxL
namespace Go.Proofs.Ytmikhkolbkdnpaa
open Go.RowKit
open Go.Maps (Keyed)
set_option linter.unusedVariables false
set_option linter.unusedSimpArgs false

theorem zeroIntC (w : World) : (zeroValue 3).run Try.prog w = .ok (.int .i64 0) w := by kernel_rfl
theorem infoK4 : (Try.prog.info? 107).map (fun i => (i.zero, i.size, i.bytes)) = some (some (.agg #[.int .i64 0, .int .i64 0, .int .i64 0, .int .i64 0]), 4, 32) := by kernel_rfl
abbrev IsMpC (w : World) (b n : Nat) (D : DataW Unit) : Prop := w.ownsMap Try.prog 107 (plainElem Try.prog 3) b n D
/-- The datum holds for each key of K the number at its place in V. -/
structure MDV {H : Type} (D : DataW H) (K : List K4) (V : List Nat) : Prop where
  im : Maps.IsMap D
  len : V.length = K.length
  has : ∀ x, wf4 x → Maps.has D (kl x) = K.contains x
  at_ : ∀ x, wf4 x → x ∈ K → D.atKey (kl x) (.lit (.int .i64 0)) = .lit (.int .i64 (V.getD (K.idxOf x) 0 : Nat))
theorem MDV.nil {H : Type} : MDV (.map [] : DataW H) [] [] := ⟨⟨[], rfl⟩, rfl, fun x hx => by rfl, fun x _ h => by simp at h⟩
theorem MDV.put {H : Type} {D : DataW H} {K : List K4} {V : List Nat} (h : MDV D K V) {x : K4} {i : Nat} (hx : wf4 x) (hn : K.contains x = false) : MDV (D.put (kl x) (.lit (.int .i64 (i : Nat)))) (K ++ [x]) (V ++ [i]) := by
  have hne : x ∉ K := by simpa using hn
  refine ⟨?_, by simp [h.len], fun y hy => ?_, fun y hy hm => ?_⟩
  · obtain ⟨es, rfl⟩ := h.im
    exact ⟨_, rfl⟩
  · by_cases e : y = x
    · subst e
      rw [Maps.has_put_same h.im (kl_key y)]
      simp
    · have hk : kl y ≠ kl x := fun k => e (kl_inj hy hx k)
      rw [Maps.has_put_other hk, h.has y hy]
      simp [e]
  · by_cases e : y = x
    · subst e
      rw [Maps.atKey_put_same h.im (kl_key y)]
      rw [List.idxOf_append, if_neg hne, ← h.len]
      simp
    · have hk : kl y ≠ kl x := fun k => e (kl_inj hy hx k)
      have hm' : y ∈ K := by simpa [e] using hm
      have hlt := List.idxOf_lt_length_iff.2 hm'
      rw [Maps.atKey_put_other hk, h.at_ y hy hm', List.idxOf_append, if_pos hm']
      simp only [List.getD_eq_getElem?_getD]
      rw [List.getElem?_append_left (by rw [h.len]; exact hlt)]
theorem cell_four_newC (w : World) (a b c d : Value) (t : TypeId) : ∀ j u, [a, b, c, d][j]? = some u → (w.alloc (.cells #[a, b, c, d] t)).cell? ((⟨w.heap.size, 0, none⟩ : Addr).add j) = some u := by
  intro j u hj
  match j, hj with
  | 0, hj => simp at hj; subst hj; simp [Addr.add]
  | 1, hj => simp at hj; subst hj; simp [Addr.add]
  | 2, hj => simp at hj; subst hj; simp [Addr.add]
  | 3, hj => simp at hj; subst hj; simp [Addr.add]
theorem box1 {w : World} {g : Nat} {a : Value} {t : TypeId} (h : w.heap[g]? = some (.cells #[a] t (0, 0))) : w.cell? ⟨g, 0, none⟩ = some a ∧ ∀ j, w.frozen? ⟨g, j, none⟩ = false :=
  ⟨by rw [cell_of_row w g 0 _ t _ h]; rfl, fun j => frozen_of_row w g j _ t h⟩
theorem row_neC {w : World} {base n size g : Nat} {e t : TypeId} {v : Value} {xs : List Value} {cs : Array Value} {f : Nat × Nat} (h : w.ownsRow base e size v n xs) (hg : w.heap[g]? = some (.cells cs t f)) (hne : t ≠ e) : some g ≠ v.ownBlock := fun k => by
  obtain ⟨_, cur, hc⟩ := row_lt h k.symm
  rw [hc] at hg
  cases hg
  exact hne rfl
theorem row_grownC {w w' : World} {base n size b m : Nat} {e k : TypeId} {R : Value → Option (DataW Unit × List MemPlace)} {D : DataW Unit} {v : Value} {xs : List Value} {o : Obj} (h : w.ownsRow base e size v n xs) (hO : (w.alloc o).ownsMap Try.prog k R b m D) (hg : (w.alloc o).grownBy w' (some b)) : w'.ownsRow base e size v n xs :=
  row_keep h fun g hk => by
    obtain ⟨_, cur, hc⟩ := row_lt h hk
    have h1 := block_alloc hc o
    exact ((hg.block g (lt_of_block h1) (by have := map_ne hO h1; simpa using this)).trans h1).trans hc.symm
end Go.Proofs.Ytmikhkolbkdnpaa
