/- Arguments that are a character, or two small integers, opened. -/
import Derived.Test.YtlagljnhbhnelaaOpenM
import Derived.Test.YtlagljnhbhnelaaCommon
namespace Go.Proofs.Ytlagljnhbhnelaa
open Go.ChangeShapes Go.WideShapes Go.ChangeAt Go.RowKit Go.Joins

theorem addr_addK (b o k : Nat) : (⟨b, o, none⟩ : Addr).add k = ⟨b, o + k, none⟩ := by unfold Addr.add; split <;> simp_all
theorem i16_of_wf {a : Int} (h : (Lit.int .i16 a).wf = true) : -32768 ≤ a ∧ a ≤ 32767 := by
  simp [Lit.wf, IntKind.min, IntKind.max, IntKind.bits, IntKind.signed] at h
  omega
theorem i8_of_wfK {a : Int} (h : (Lit.int .i8 a).wf = true) : -128 ≤ a ∧ a ≤ 127 := by
  simp [Lit.wf, IntKind.min, IntKind.max, IntKind.bits, IntKind.signed] at h
  omega
set_option maxRecDepth 100000 in
theorem open_char_arg {H : Type} {enc : TypeId × Value → H} {W : World} {b0 : Nat} {v : Value} {d : DataW H} {p : List MemPlace} (hv : Value.okWide Try.prog W .any b0 33 v) (h : DataW.Trod enc Try.prog W 0 (fun _ => true) true 33 v d p) :
    ∃ (n : Int) (A : Option Addr) (c : Nat) (l : List Int), v = .agg #[.int .i64 n, .slice A l.length c] ∧ RdZ W W.heap.size A c l ∧ (A = none → c = 0) := by
  have hv2 := hv
  obtain ⟨v0, v1, y0, y1, n, rfl, hd, hp, t0, t1⟩ := open_agg2 Try.underlying33 (by kernel_rfl) (by kernel_rfl) hv h
  obtain ⟨b, e0, _⟩ := DataW.trod_int Try.underlying3 t0
  obtain rfl : v0 = .int .i64 b := by simpa using e0
  simp only [Value.okWide, Try.underlying33] at hv2
  obtain ⟨cs, hcs, _, ts, hts, _, hcell⟩ := hv2
  injection hcs with hcs
  subst hcs
  obtain rfl : ts = [3, 23] := Option.some.inj (hts.symm.trans (by kernel_rfl))
  obtain ⟨u, hu, hok⟩ := hcell 1 v1 rfl
  obtain rfl : 23 = u := Option.some.inj hu
  rcases open_ints Try.underlying23 Try.underlying3 (by kernel_rfl) t1 with ⟨e1, _⟩ | ⟨a, len, cap, zs, e1, _, hl, hm, hz, _, hc, _⟩
  · obtain rfl : v1 = .slice none 0 0 := by simpa using e1
    exact ⟨b, none, 0, [], rfl, ⟨by simp, by unfold maxLen; omega, fun h0 => by simp at h0, fun _ h0 => by cases h0⟩, fun _ => rfl⟩
  · obtain rfl : v1 = .slice (some a) len cap := by simpa using e1
    have hs : a.spot = none := by
      simp only [Cell.okWide, Cell.ok, Try.underlying23] at hok
      exact hok.2.2.2.1
    obtain ⟨bb, o, s⟩ := a
    obtain rfl : s = none := hs
    have hzc : zs.length = cap := by simpa using hz
    have hlen : (zs.take len).length = len := by rw [List.length_take, Nat.min_eq_left (by omega)]
    refine ⟨b, some ⟨bb, o, none⟩, cap, zs.take len, by rw [hlen], ⟨by rw [hlen]; omega, hm, fun h0 => ⟨bb, o, rfl, ?_, fun k hk => ?_⟩, fun a ha => by injection ha with ha; exact ⟨_, _, ha.symm⟩⟩, fun h0 => by cases h0⟩
    · rw [hlen] at h0
      have h1 := hc 0 (by omega)
      exact World.block_lt_of_cell? W _ h1
    · rw [hlen] at hk
      have h1 := hc k (by omega)
      rw [addr_addK] at h1
      rw [h1, List.getElem_take, List.getD_eq_getElem?_getD, List.getElem?_eq_getElem (by omega)]
      rfl
set_option maxRecDepth 100000 in
theorem open_spair_arg {H : Type} {enc : TypeId × Value → H} {W : World} {b0 : Nat} {v : Value} {d : DataW H} {p : List MemPlace} (hv : Value.okWide Try.prog W .any b0 54 v) (h : DataW.Trod enc Try.prog W 0 (fun _ => true) true 54 v d p) :
    ∃ a b : Int, v = .agg #[.int .i16 a, .int .i16 b] ∧ (-32768 ≤ a ∧ a ≤ 32767) ∧ (-32768 ≤ b ∧ b ≤ 32767) := by
  simp only [Value.okWide, Try.underlying54] at hv
  obtain ⟨cs, rfl, hsz, _⟩ := hv
  obtain ⟨c0, c1, rfl⟩ := array2 (hsz.trans (by kernel_rfl))
  obtain ⟨fuel, hf⟩ := h
  obtain ⟨xs, m, _, _, _, hxl, hi⟩ := DataW.trod_array Try.underlying54 hf
  have hc : Try.prog.cellsOf 53 = 1 := by kernel_rfl
  have h0 := hi 0 (by omega)
  have h1 := hi 1 (by omega)
  rw [hc] at h0 h1
  rw [List.getElem?_eq_getElem (by omega)] at h0 h1
  obtain ⟨x0, e0, _, f0⟩ := DataW.trod_int Try.underlying53 h0
  obtain ⟨x1, e1, _, f1⟩ := DataW.trod_int Try.underlying53 h1
  simp [Value.cells] at e0 e1
  exact ⟨x0, x1, by rw [e0, e1], i16_of_wf f0, i16_of_wf f1⟩
end Go.Proofs.Ytlagljnhbhnelaa
