/- An argument that is a coset action, opened. -/
import Derived.Test.YtmikhkolbkdnpaaOpenM
namespace Go.Proofs.Ytmikhkolbkdnpaa
open Go.ChangeShapes Go.WideShapes Go.ChangeAt Go.RowKit Go.Joins

theorem addr_add9 (b o k : Nat) : (⟨b, o, none⟩ : Addr).add k = ⟨b, o + k, none⟩ := by unfold Addr.add; split <;> simp_all
set_option maxRecDepth 100000 in
theorem open_act_arg {H : Type} {enc : TypeId × Value → H} {W : World} {b0 : Nat} {v : Value} {d : DataW H} {p : List MemPlace} (hv : Value.okWide Try.prog W .any b0 24 v) (h : DataW.Trod enc Try.prog W 0 (fun _ => true) true 24 v d p) :
    ∃ (A : Option Addr) (c : Nat) (l : List Int) (A' : Option Addr) (c' : Nat) (l' : List Int), v = .agg #[.slice A l.length c, .slice A' l'.length c'] ∧ (RdZ W W.heap.size A c l ∧ (A = none → c = 0)) ∧ RdZ W W.heap.size A' c' l' ∧ (A' = none → c' = 0) := by
  have hv2 := hv
  obtain ⟨v0, v1, y0, y1, n, rfl, hd, hp, t0, t1⟩ := open_agg2 Try.underlying24 (by kernel_rfl) (by kernel_rfl) hv h
  simp only [Value.okWide, Try.underlying24] at hv2
  obtain ⟨cs, hcs, _, ts, hts, _, hcell⟩ := hv2
  injection hcs with hcs
  subst hcs
  obtain rfl : ts = [22, 22] := Option.some.inj (hts.symm.trans (by kernel_rfl))
  obtain ⟨u, hu, hok⟩ := hcell 1 v1 rfl
  obtain rfl : 22 = u := Option.some.inj hu
  obtain ⟨u0, hu0, hok0⟩ := hcell 0 v0 rfl
  obtain rfl : 22 = u0 := Option.some.inj hu0
  have h0 : ∃ (A : Option Addr) (c : Nat) (l : List Int), v0 = .slice A l.length c ∧ RdZ W W.heap.size A c l ∧ (A = none → c = 0) := by
    rcases open_ints Try.underlying22 Try.underlying3 (by kernel_rfl) t0 with ⟨e1, _⟩ | ⟨a, len, cap, zs, e1, _, hl, hm, hz, _, hc, _⟩
    · obtain rfl : v0 = .slice none 0 0 := by simpa using e1
      exact ⟨none, 0, [], rfl, ⟨by simp, by unfold maxLen; omega, fun h0 => by simp at h0, fun _ h0 => by cases h0⟩, fun _ => rfl⟩
    · obtain rfl : v0 = .slice (some a) len cap := by simpa using e1
      have hs : a.spot = none := by
        simp only [Cell.okWide, Cell.ok, Try.underlying22] at hok0
        exact hok0.2.2.2.1
      obtain ⟨bb, o, s⟩ := a
      obtain rfl : s = none := hs
      have hzc : zs.length = cap := by simpa using hz
      have hlen : (zs.take len).length = len := by rw [List.length_take, Nat.min_eq_left (by omega)]
      refine ⟨some ⟨bb, o, none⟩, cap, zs.take len, by rw [hlen], ⟨by rw [hlen]; omega, hm, fun h0 => ⟨bb, o, rfl, ?_, fun k hk => ?_⟩, fun a ha => by injection ha with ha; exact ⟨_, _, ha.symm⟩⟩, fun h0 => by cases h0⟩
      · rw [hlen] at h0
        have h1 := hc 0 (by omega)
        exact World.block_lt_of_cell? W _ h1
      · rw [hlen] at hk
        have h1 := hc k (by omega)
        rw [addr_add9] at h1
        rw [h1, List.getElem_take, List.getD_eq_getElem?_getD, List.getElem?_eq_getElem (by omega)]
        rfl
  have h1 : ∃ (A : Option Addr) (c : Nat) (l : List Int), v1 = .slice A l.length c ∧ RdZ W W.heap.size A c l ∧ (A = none → c = 0) := by
    rcases open_ints Try.underlying22 Try.underlying3 (by kernel_rfl) t1 with ⟨e1, _⟩ | ⟨a, len, cap, zs, e1, _, hl, hm, hz, _, hc, _⟩
    · obtain rfl : v1 = .slice none 0 0 := by simpa using e1
      exact ⟨none, 0, [], rfl, ⟨by simp, by unfold maxLen; omega, fun h0 => by simp at h0, fun _ h0 => by cases h0⟩, fun _ => rfl⟩
    · obtain rfl : v1 = .slice (some a) len cap := by simpa using e1
      have hs : a.spot = none := by
        simp only [Cell.okWide, Cell.ok, Try.underlying22] at hok
        exact hok.2.2.2.1
      obtain ⟨bb, o, s⟩ := a
      obtain rfl : s = none := hs
      have hzc : zs.length = cap := by simpa using hz
      have hlen : (zs.take len).length = len := by rw [List.length_take, Nat.min_eq_left (by omega)]
      refine ⟨some ⟨bb, o, none⟩, cap, zs.take len, by rw [hlen], ⟨by rw [hlen]; omega, hm, fun h0 => ⟨bb, o, rfl, ?_, fun k hk => ?_⟩, fun a ha => by injection ha with ha; exact ⟨_, _, ha.symm⟩⟩, fun h0 => by cases h0⟩
      · rw [hlen] at h0
        have h1 := hc 0 (by omega)
        exact World.block_lt_of_cell? W _ h1
      · rw [hlen] at hk
        have h1 := hc k (by omega)
        rw [addr_add9] at h1
        rw [h1, List.getElem_take, List.getD_eq_getElem?_getD, List.getElem?_eq_getElem (by omega)]
        rfl
  obtain ⟨A, c, l, rfl, h2⟩ := h0
  obtain ⟨A', c', l', rfl, h3⟩ := h1
  exact ⟨A, c, l, A', c', l', rfl, h2, h3⟩
end Go.Proofs.Ytmikhkolbkdnpaa
