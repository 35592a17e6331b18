/- Maps from [4]int to int: what a key reads as; a map that holds the places of a list of keys. -/
import Derived.Test.YtmikhkolbkdnpaaLawK
import Derived.Maps.OwnSet
import Derived.Maps.OwnOps
import Derived.Maps.AppendAt
import Derived.DeepKeys4
namespace Go.Proofs.Ytmikhkolbkdnpaa
open Go.RowKit
open Go.Maps (Keyed)
set_option linter.unusedVariables false

abbrev K4 := Int × Int × Int × Int
def kv (x : K4) : Value := .agg #[.int .i64 x.1, .int .i64 x.2.1, .int .i64 x.2.2.1, .int .i64 x.2.2.2]
def kl (x : K4) : Lit := .string (keyBytes [.int .i64 x.1, .int .i64 x.2.1, .int .i64 x.2.2.1, .int .i64 x.2.2.2])
def wf4 (x : K4) : Prop := (Lit.int .i64 x.1).wf = true ∧ (Lit.int .i64 x.2.1).wf = true ∧ (Lit.int .i64 x.2.2.1).wf = true ∧ (Lit.int .i64 x.2.2.2).wf = true
theorem laidOutP : laidOutB Try.prog = true := by kernel_rfl
theorem law4 : Keyed Try.prog 107 := Keyed.of_law (deep_law_laid laidOutP (m := 2) (by omega) (of_decide_eq_true (by kernel_rfl)) (by kernel_rfl) (by kernel_rfl))
theorem keyLits_int {P : Program} {e : TypeId} (he : P.underlying e = some (.int .i64)) (d : Nat) {a : Int} (h : (Lit.int .i64 a).wf = true) : P.keyLits (d + 1) e [.int .i64 a] = some [.int .i64 a] := by
  simp [Program.keyLits, he, h]
theorem keyLits_four {P : Program} {k e : TypeId} (hk : P.underlying k = some (.array 4 e)) (he : P.underlying e = some (.int .i64)) (ck : P.cellsOf k = 4) (ce : P.cellsOf e = 1) (d : Nat) {x : K4} (h : wf4 x) :
    P.keyLits (d + 2) k [.int .i64 x.1, .int .i64 x.2.1, .int .i64 x.2.2.1, .int .i64 x.2.2.2] = some [.int .i64 x.1, .int .i64 x.2.1, .int .i64 x.2.2.1, .int .i64 x.2.2.2] := by
  obtain ⟨h1, h2, h3, h4⟩ := h
  have hr : List.range 4 = [0, 1, 2, 3] := rfl
  unfold Program.keyLits
  simp [hk, ck, ce, hr, keyLits_int he d h1, keyLits_int he d h2, keyLits_int he d h3, keyLits_int he d h4]
set_option maxRecDepth 1000000 in
theorem key_of {x : K4} (h : wf4 x) : keyOf Try.prog 107 (kv x) = some (kl x) := by
  have hc : (kv x).cells.toList = [.int .i64 x.1, .int .i64 x.2.1, .int .i64 x.2.2.1, .int .i64 x.2.2.2] := by simp [kv, Value.cells]
  obtain ⟨m, hm⟩ : ∃ m, Try.prog.types.size = m + 1 := ⟨Try.prog.types.size - 1, by have h0 : 0 < Try.prog.types.size := of_decide_eq_true (by kernel_rfl); omega⟩
  have hf : (kv x).formed Try.prog 107 = true := by
    simp [kv, Value.formed, Try.underlying107]
    exact (by kernel_rfl : 4 = Try.prog.cellsOf 107)
  have ht : Try.prog.keyType 107 = true := by kernel_rfl
  unfold keyOf
  rw [Try.underlying107]
  simp only [ht, hf, Bool.and_self, if_true, hc]
  rw [hm, keyLits_four Try.underlying107 Try.underlying3 (by kernel_rfl) (by kernel_rfl) m h]
  rfl
theorem kl_inj {x y : K4} (hx : wf4 x) (hy : wf4 y) (h : kl x = kl y) : x = y := by
  have e := law4.inj (key_of hx) (by rw [h]; exact key_of hy)
  obtain ⟨a, b, c, d⟩ := x
  obtain ⟨a', b', c', d'⟩ := y
  simp [kv] at e
  obtain ⟨rfl, rfl, rfl, rfl⟩ := e
  rfl
theorem kl_key (x : K4) : WideAt.IsKeyLit (kl x) := trivial
/-- The datum holds the places of the keys of a list. -/
structure MD {H : Type} (D : DataW H) (K : List K4) : Prop where
  im : Maps.IsMap D
  has : ∀ x, wf4 x → Maps.has D (kl x) = K.contains x
  at_ : ∀ x, wf4 x → x ∈ K → D.atKey (kl x) (.lit (.int .i64 0)) = .lit (.int .i64 (K.idxOf x : Nat))
theorem MD.nil {H : Type} : MD (.map [] : DataW H) [] := ⟨⟨[], rfl⟩, fun x hx => by rfl, fun x _ h => by simp at h⟩
theorem MD.put {H : Type} {D : DataW H} {K : List K4} (h : MD D K) {x : K4} (hx : wf4 x) (hn : K.contains x = false) : MD (D.put (kl x) (.lit (.int .i64 (K.length : Nat)))) (K ++ [x]) := by
  have hne : x ∉ K := by simpa using hn
  refine ⟨?_, fun y hy => ?_, fun y hy hm => ?_⟩
  · obtain ⟨es, rfl⟩ := h.im
    exact ⟨_, rfl⟩
  · by_cases e : y = x
    · subst e
      rw [Maps.has_put_same h.im (kl_key y)]
      simp
    · have hk : kl y ≠ kl x := fun k => e (kl_inj hy hx k)
      rw [Maps.has_put_other hk, h.has y hy]
      simp [e]
  · by_cases e : y = x
    · subst e
      rw [Maps.atKey_put_same h.im (kl_key y)]
      rw [List.idxOf_append, if_neg hne]
      simp
    · have hk : kl y ≠ kl x := fun k => e (kl_inj hy hx k)
      have hm' : y ∈ K := by simpa [e] using hm
      rw [Maps.atKey_put_other hk, h.at_ y hy hm', List.idxOf_append, if_pos hm']
theorem map_keep {w w' : World} {k : TypeId} {R : Value → Option (DataW Unit × List MemPlace)} {b n : Nat} {D : DataW Unit} (h : w.ownsMap Try.prog k R b n D) (hb : w'.heap[b]? = w.heap[b]?) : w'.ownsMap Try.prog k R b n D := by
  obtain ⟨es, clock, h1, h2⟩ := h
  exact ⟨es, clock, hb.trans h1, h2⟩
theorem map_below {w w' : World} {k : TypeId} {R : Value → Option (DataW Unit × List MemPlace)} {b n : Nat} {D : DataW Unit} (h : w.ownsMap Try.prog k R b n D) (hb : Below w.heap.size w w') : w'.ownsMap Try.prog k R b n D := map_keep h (hb.block b h.lt)
theorem map_ne {w : World} {k : TypeId} {R : Value → Option (DataW Unit × List MemPlace)} {b n g : Nat} {D : DataW Unit} {cs : Array Value} {t : TypeId} {f : Nat × Nat} (h : w.ownsMap Try.prog k R b n D) (hg : w.heap[g]? = some (.cells cs t f)) : g ≠ b := by
  rintro rfl
  obtain ⟨es, clock, h1, _⟩ := h
  rw [h1] at hg
  cases hg
theorem row_keep {w w' : World} {base n size : Nat} {e : TypeId} {v : Value} {xs : List Value} (h : w.ownsRow base e size v n xs) (hk : ∀ g, v.ownBlock = some g → w'.heap[g]? = w.heap[g]?) : w'.ownsRow base e size v n xs := by
  obtain ⟨h1, h2⟩ := h
  refine ⟨h1, ?_⟩
  rcases h2 with h2 | ⟨g, cap, cur, rfl, hb, hg, h3⟩
  · exact .inl h2
  · exact .inr ⟨g, cap, cur, rfl, hb, (hk g rfl).trans hg, h3⟩
theorem row_lt {w : World} {base n size : Nat} {e : TypeId} {v : Value} {xs : List Value} (h : w.ownsRow base e size v n xs) {g : Nat} (hg : v.ownBlock = some g) : base ≤ g ∧ ∃ cur, w.heap[g]? = some (.cells cur e (0, 0)) := by
  rcases h.2 with ⟨rfl, _⟩ | ⟨g', cap, cur, rfl, hb, hg', h3⟩
  · cases hg
  · cases hg
    exact ⟨hb, cur, hg'⟩
theorem row_below {w w' : World} {base n size : Nat} {e : TypeId} {v : Value} {xs : List Value} (h : w.ownsRow base e size v n xs) (hb : Below w.heap.size w w') : w'.ownsRow base e size v n xs :=
  row_keep h fun g hg => by
    obtain ⟨_, cur, hc⟩ := row_lt h hg
    exact hb.block g (lt_of_block hc)
end Go.Proofs.Ytmikhkolbkdnpaa
