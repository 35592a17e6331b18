/- Slices of digits in memory: read (Rd), written in place (Own, Wrote). -/
import Derived.Test.YtbijjiadokgmoaaDoorProg
import Derived.WalkKit
import Derived.Below
import Derived.Laws.OwnMore
import Derived.Laws.Rows
import Derived.OneCell
import Derived.Deep.Draws
import Derived.Test.YtbijjiadokgmoaaDoorCarry
namespace Go.Proofs.YtbijjiadokgmoaaDoor
open Go.RowKit

/-- The slice value '.slice A ds.length c' reads as the digits ds; its array lies below block B. -/
def Rd (w : World) (B : Nat) (A : Option Addr) (c : Nat) (ds : List Nat) : Prop :=
  Dgs ds ∧ ds.length ≤ c ∧ c ≤ maxLen ∧ (0 < ds.length → ∃ b o, A = some ⟨b, o, none⟩ ∧ b < B ∧ ∀ k (h : k < ds.length), w.cell? ⟨b, o + k, none⟩ = some (.int .u32 (ds[k] : Int))) ∧
  ∀ a, A = some a → ∃ b o, a = ⟨b, o, none⟩

theorem Rd.dgs {w : World} {B c : Nat} {A : Option Addr} {ds : List Nat} (h : Rd w B A c ds) : Dgs ds := h.1
theorem Rd.keep {w w' : World} {B c : Nat} {A : Option Addr} {ds : List Nat} (h : Rd w B A c ds) (hk : ∀ b o, b < B → w'.cell? ⟨b, o, none⟩ = w.cell? ⟨b, o, none⟩) : Rd w' B A c ds :=
  ⟨h.1, h.2.1, h.2.2.1, fun hn => by
    obtain ⟨b, o, e, hb, hc⟩ := h.2.2.2.1 hn
    exact ⟨b, o, e, hb, fun k hk' => (hk b (o + k) hb).trans (hc k hk')⟩, h.2.2.2.2⟩
theorem Rd.mono {w : World} {B B' c : Nat} {A : Option Addr} {ds : List Nat} (h : Rd w B A c ds) (hB : B ≤ B') : Rd w B' A c ds :=
  ⟨h.1, h.2.1, h.2.2.1, fun hn => by
    obtain ⟨b, o, e, hb, hc⟩ := h.2.2.2.1 hn
    exact ⟨b, o, e, by omega, hc⟩, h.2.2.2.2⟩
theorem Rd.below {w w' : World} {B c : Nat} {A : Option Addr} {ds : List Nat} (h : Rd w B A c ds) (hb : Below B w w') : Rd w' B A c ds :=
  h.keep fun b o hlt => hb.cell (p := ⟨b, o, none⟩) hlt
theorem Rd.drewN {w : World} {B c : Nat} {A : Option Addr} {ds : List Nat} (h : Rd w B A c ds) (n : Nat) : Rd (w.drewN n) B A c ds := h
theorem Rd.alloc {w : World} {B c : Nat} {A : Option Addr} {ds : List Nat} (h : Rd w B A c ds) (hB : B ≤ w.heap.size) (o : Obj) : Rd (w.alloc o) B A c ds :=
  h.below ((Below.refl _ _).alloc hB o)
theorem Rd.nil (w : World) (B : Nat) : Rd w B none 0 [] := ⟨dgs_nil, Nat.le_refl _, by unfold maxLen; omega, fun h => absurd h (by simp), fun _ h => by cases h⟩
theorem Rd.at_ {w : World} {B c k : Nat} {A : Option Addr} {ds : List Nat} (h : Rd w B A c ds) (hk : k < ds.length) : ∃ b o, A = some ⟨b, o, none⟩ ∧ b < B ∧ w.cell? ⟨b, o + k, none⟩ = some (.int .u32 (ds[k] : Int)) := by
  obtain ⟨b, o, e, hb, hc⟩ := h.2.2.2.1 (by omega)
  exact ⟨b, o, e, hb, hc k hk⟩
/-- The first n digits. -/
theorem Rd.take {w : World} {B c : Nat} {A : Option Addr} {ds : List Nat} (h : Rd w B A c ds) (n : Nat) : Rd w B A c (ds.take n) := by
  have hl : (ds.take n).length ≤ ds.length := by rw [List.length_take]; omega
  refine ⟨h.1.take n, by have := h.2.1; omega, h.2.2.1, fun hn => ?_, h.2.2.2.2⟩
  obtain ⟨b, o, e, hb, hc⟩ := h.2.2.2.1 (by omega)
  exact ⟨b, o, e, hb, fun k hk => by rw [List.getElem_take]; exact hc k (by omega)⟩
/-- The digits from n on: 's[n:]' and 's[n:m]'. -/
theorem Rd.drop {w : World} {B c : Nat} {A : Option Addr} {ds : List Nat} (h : Rd w B A c ds) {n : Nat} (hn : n ≤ ds.length) : Rd w B (if c = n then A else A.map (·.add n)) (c - n) (ds.drop n) := by
  refine ⟨h.1.drop n, by rw [List.length_drop]; have := h.2.1; omega, by have := h.2.2.1; omega, fun h0 => ?_, fun a ha => ?_⟩
  rotate_left
  · split at ha
    · exact h.2.2.2.2 a ha
    · cases A with
      | none => cases ha
      | some a0 =>
        obtain ⟨b, o, rfl⟩ := h.2.2.2.2 a0 rfl
        simp only [Option.map_some, Option.some.injEq] at ha
        subst ha
        unfold Addr.add
        split
        · exact ⟨_, _, rfl⟩
        · exact ⟨_, _, rfl⟩
  rw [List.length_drop] at h0
  obtain ⟨b, o, rfl, hb, hc⟩ := h.2.2.2.1 (by omega)
  have hcn : ¬ c = n := by have := h.2.1; omega
  refine ⟨b, o + n, ?_, hb, fun k hk => ?_⟩
  · rw [if_neg hcn]
    simp only [Option.map_some, Option.some.injEq]
    unfold Addr.add
    split <;> simp_all
  · rw [List.getElem_drop, Nat.add_assoc]
    exact hc _ (by rw [List.length_drop] at hk; omega)

/-- From w to w' only block g has been written among the old ones, there only from lo to hi; nothing has gone. -/
structure Wrote (w w' : World) (g lo hi : Nat) : Prop where
  os : w'.os = w.os
  tape : w'.tape = w.tape
  output : w'.output = w.output
  size : w.heap.size ≤ w'.heap.size
  block : ∀ i, i < w.heap.size → i ≠ g → w'.heap[i]? = w.heap[i]?
  row : ∀ cs t, w.heap[g]? = some (.cells cs t (0, 0)) → ∃ cs', w'.heap[g]? = some (.cells cs' t (0, 0)) ∧ cs'.size = cs.size ∧ ∀ j, (j < lo ∨ hi ≤ j) → cs'[j]? = cs[j]?

section
variable {w w' w2 : World} {g lo hi : Nat}
theorem Wrote.refl (w : World) (g lo hi : Nat) : Wrote w w g lo hi := ⟨rfl, rfl, rfl, Nat.le_refl _, fun _ _ _ => rfl, fun cs _ h => ⟨cs, h, rfl, fun _ _ => rfl⟩⟩
theorem Wrote.trans (h : Wrote w w' g lo hi) (k : Wrote w' w2 g lo hi) : Wrote w w2 g lo hi :=
  ⟨k.os.trans h.os, k.tape.trans h.tape, k.output.trans h.output, Nat.le_trans h.size k.size, fun i hi hg => (k.block i (Nat.lt_of_lt_of_le hi h.size) hg).trans (h.block i hi hg), fun cs t hc => by
    obtain ⟨cs1, h1, h2, h3⟩ := h.row cs t hc
    obtain ⟨cs2, k1, k2, k3⟩ := k.row cs1 t h1
    exact ⟨cs2, k1, k2.trans h2, fun j hj => (k3 j hj).trans (h3 j hj)⟩⟩
theorem Wrote.mono (h : Wrote w w' g lo hi) {lo' hi' : Nat} (h1 : lo' ≤ lo) (h2 : hi ≤ hi') : Wrote w w' g lo' hi' :=
  ⟨h.os, h.tape, h.output, h.size, h.block, fun cs t hc => by
    obtain ⟨cs1, k1, k2, k3⟩ := h.row cs t hc
    exact ⟨cs1, k1, k2, fun j hj => k3 j (by omega)⟩⟩
theorem Wrote.drewN (h : Wrote w w' g lo hi) (n : Nat) : Wrote w (w'.drewN n) g lo hi := ⟨h.os, h.tape, h.output, h.size, h.block, h.row⟩
theorem Wrote.of_below (hg : g < w.heap.size) (hb : Below w.heap.size w w') : Wrote w w' g lo hi :=
  ⟨hb.os, hb.tape, hb.output, hb.size, fun i hi _ => hb.block i hi, fun cs _ hc => ⟨cs, (hb.block g hg).trans hc, rfl, fun _ _ => rfl⟩⟩
theorem Wrote.alloc (h : Wrote w w' g lo hi) (hg : g < w.heap.size) (o : Obj) : Wrote w (w'.alloc o) g lo hi :=
  h.trans (.of_below (Nat.lt_of_lt_of_le hg h.size) ((Below.refl _ _).alloc (Nat.le_refl _) o))
theorem Wrote.setCell (h : Wrote w w' g lo hi) {j : Nat} (h1 : lo ≤ j) (h2 : j < hi) (u : Value) : Wrote w (w'.setCell ⟨g, j, none⟩ u) g lo hi := by
  refine h.trans ⟨rfl, rfl, rfl, by simp [World.setCell], fun i _ hg => Below.heap_setCell _ _ _ _ hg, fun cs t hc => ⟨cs.setIfInBounds j u, heap_setCell_same _ _ _ _ _ _ hc, by simp, fun i hi => ?_⟩⟩
  rw [Array.getElem?_setIfInBounds_ne (by omega)]
/-- What lies below another block is as it was. -/
theorem Wrote.below (h : Wrote w w' g lo hi) {B : Nat} (hB : B ≤ g) (hs : B ≤ w.heap.size) : Below B w w' := ⟨h.os, h.tape, h.output, h.size, fun i hi => h.block i (by omega) (by omega)⟩
theorem Wrote.cell (h : Wrote w w' g lo hi) {b o : Nat} (hb : b < w.heap.size) (hg : b ≠ g) : w'.cell? ⟨b, o, none⟩ = w.cell? ⟨b, o, none⟩ :=
  World.cell?_of_block (h.block b hb hg)
end
theorem Rd.wrote {w w' : World} {B c g lo hi : Nat} {A : Option Addr} {ds : List Nat} (h : Rd w B A c ds) (hw : Wrote w w' g lo hi) (hB : B ≤ g) (hs : B ≤ w.heap.size) : Rd w' B A c ds :=
  h.below (hw.below hB hs)

/-- Block g, of digits and not frozen, holds the digits zs from place o on. -/
def Own (w : World) (g o : Nat) (zs : List Nat) : Prop :=
  Dgs zs ∧ ∃ cs, w.heap[g]? = some (.cells cs 64 (0, 0)) ∧ o + zs.length ≤ cs.size ∧ ∀ k (h : k < zs.length), cs[o + k]? = some (.int .u32 (zs[k] : Int))
section
variable {w w' : World} {g o : Nat} {zs : List Nat}
theorem Own.dgs (h : Own w g o zs) : Dgs zs := h.1
theorem Own.lt (h : Own w g o zs) : g < w.heap.size := by obtain ⟨_, cs, h1, _⟩ := h; exact lt_of_block h1
theorem Own.cell (h : Own w g o zs) {k : Nat} (hk : k < zs.length) : w.cell? ⟨g, o + k, none⟩ = some (.int .u32 (zs[k] : Int)) := by
  obtain ⟨_, cs, h1, _, h2⟩ := h
  rw [cell_of_row w g _ cs _ _ h1]; exact h2 k hk
theorem Own.free (h : Own w g o zs) (k : Nat) : w.frozen? ⟨g, k, none⟩ = false := by
  obtain ⟨_, cs, h1, _⟩ := h
  exact frozen_of_row w g _ cs _ h1
theorem Own.setCell (h : Own w g o zs) {k d : Nat} (hk : k < zs.length) (hd : d < 4294967296) : Own (w.setCell ⟨g, o + k, none⟩ (.int .u32 (d : Int))) g o (zs.set k d) := by
  obtain ⟨h0, cs, h1, h2, h3⟩ := h
  refine ⟨fun x hx => ?_, _, heap_setCell_same _ _ _ _ _ _ h1, by simpa using h2, fun j hj => ?_⟩
  · rcases List.mem_or_eq_of_mem_set hx with h | h
    · exact h0 x h
    · rw [h]; exact hd
  · rw [List.length_set] at hj
    by_cases e : j = k
    · subst e
      rw [Array.getElem?_setIfInBounds_self_of_lt (by omega), List.getElem_set_self]
    · rw [Array.getElem?_setIfInBounds_ne (by omega), List.getElem_set_ne (by omega)]
      exact h3 j hj
theorem Own.keep (h : Own w g o zs) (hb : w'.heap[g]? = w.heap[g]?) : Own w' g o zs := by
  obtain ⟨h0, cs, h1, h2, h3⟩ := h
  exact ⟨h0, cs, hb.trans h1, h2, h3⟩
theorem Own.drewN (h : Own w g o zs) (n : Nat) : Own (w.drewN n) g o zs := h.keep rfl
theorem Own.below (h : Own w g o zs) {B : Nat} (hb : Below B w w') (hg : g < B) : Own w' g o zs := h.keep (hb.block g hg)
theorem Own.alloc (h : Own w g o zs) (ob : Obj) : Own (w.alloc ob) g o zs := h.keep (Below.heap_alloc _ _ _ h.lt)
theorem Own.far {g' lo hi : Nat} (h : Own w g o zs) (hw : Wrote w w' g' lo hi) (hg : g ≠ g') : Own w' g o zs := h.keep (hw.block g h.lt hg)
theorem Own.apart {lo hi : Nat} (h : Own w g o zs) (hw : Wrote w w' g lo hi) (hd : o + zs.length ≤ lo ∨ hi ≤ o) : Own w' g o zs := by
  obtain ⟨h0, cs, h1, h2, h3⟩ := h
  obtain ⟨cs', k1, k2, k3⟩ := hw.row cs _ h1
  exact ⟨h0, cs', k1, by omega, fun k hk => (k3 _ (by omega)).trans (h3 k hk)⟩
/-- A part of it. -/
theorem Own.part (h : Own w g o zs) {n : Nat} (hn : n ≤ zs.length) (m : Nat) : Own w g (o + n) ((zs.drop n).take m) := by
  obtain ⟨h0, cs, h1, h2, h3⟩ := h
  refine ⟨(h0.drop n).take m, cs, h1, by rw [List.length_take, List.length_drop]; omega, fun k hk => ?_⟩
  rw [List.length_take, List.length_drop] at hk
  rw [List.getElem_take, List.getElem_drop, Nat.add_assoc]
  exact h3 _ (by omega)
theorem Own.rd (h : Own w g o zs) {c B : Nat} (hc : zs.length ≤ c) (hm : c ≤ maxLen) (hB : g < B) : Rd w B (some ⟨g, o, none⟩) c zs :=
  ⟨h.1, hc, hm, fun _ => ⟨g, o, rfl, hB, fun _ hk => h.cell hk⟩, fun a ha => by injection ha with ha; exact ⟨g, o, ha.symm⟩⟩
/-- Two parts that lie side by side. -/
theorem Own.join {xs ys : List Nat} (h : Own w g o xs) (k : Own w g (o + xs.length) ys) : Own w g o (xs ++ ys) := by
  obtain ⟨h0, cs, h1, h2, h3⟩ := h
  obtain ⟨k0, cs', k1, k2, k3⟩ := k
  rw [h1] at k1
  injection k1 with k1
  injection k1 with k1
  subst k1
  refine ⟨dgs_append h0 k0, cs, h1, by rw [List.length_append]; omega, fun j hj => ?_⟩
  by_cases hx : j < xs.length
  · rw [List.getElem_append_left hx]; exact h3 j hx
  · rw [List.getElem_append_right (by omega)]
    have := k3 (j - xs.length) (by rw [List.length_append] at hj; omega)
    rw [← this]; congr 1; omega
end
end Go.Proofs.YtbijjiadokgmoaaDoor
