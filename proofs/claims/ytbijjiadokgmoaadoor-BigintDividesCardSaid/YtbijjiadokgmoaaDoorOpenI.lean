/- An integer that came in, opened: its sign and its digits. -/
import Derived.Test.YtbijjiadokgmoaaDoorMem
import Derived.Lib.SmallJoins
import Derived.ChangeSlices
import Derived.ProofKit
import Derived.OpenShut
namespace Go.Proofs.YtbijjiadokgmoaaDoor
open Go.ChangeShapes Go.WideShapes Go.ChangeAt Go.RowKit Go.Joins

theorem digs_of_ints (zs : List Int) (h : ∀ n ∈ zs, (Lit.int .u32 n).wf = true) : ∃ ds : List Nat, Dgs ds ∧ ds.length = zs.length ∧ ∀ i (h1 : i < ds.length) (h2 : i < zs.length), (ds[i] : Int) = zs[i] := by
  have hz : ∀ n ∈ zs, 0 ≤ n ∧ n < 4294967296 := fun n hn => by
    have := h n hn
    simp [Lit.wf, IntKind.min, IntKind.max, IntKind.signed, IntKind.bits] at this
    omega
  refine ⟨zs.map Int.toNat, fun d hd => ?_, by simp, fun i h1 h2 => ?_⟩
  · obtain ⟨z, hm, rfl⟩ := List.mem_map.1 hd
    have := hz z hm
    omega
  · rw [List.getElem_map]
    have := hz _ (List.getElem_mem h2)
    omega
theorem addr_add (b o k : Nat) : (⟨b, o, none⟩ : Addr).add k = ⟨b, o + k, none⟩ := by unfold Addr.add; split <;> simp_all

set_option maxRecDepth 100000 in
theorem open_int_arg {H : Type} {enc : TypeId × Value → H} {W : World} {b0 : Nat} {v : Value} {d : DataW H} {p : List MemPlace} (hv : Value.okWide Tryd.prog W .any b0 24 v) (h : DataW.Trod enc Tryd.prog W 0 (fun _ => true) true 24 v d p) :
    ∃ (n : Bool) (A : Option Addr) (c : Nat) (xs : List Nat), v = .agg #[.bool n, .slice A xs.length c] ∧ Rd W W.heap.size A c xs := by
  have hv2 := hv
  obtain ⟨v0, v1, y0, y1, n, rfl, hd, hp, t0, t1⟩ := open_agg2 Tryd.underlying24 (by kernel_rfl) (by kernel_rfl) hv h
  obtain ⟨b, e0, _⟩ := DataW.trod_bool Tryd.underlying4 t0
  obtain rfl : v0 = .bool b := by simpa using e0
  simp only [Value.okWide, Tryd.underlying24] at hv2
  obtain ⟨cs, hcs, _, ts, hts, _, hcell⟩ := hv2
  injection hcs with hcs
  subst hcs
  obtain rfl : ts = [4, 22] := Option.some.inj (hts.symm.trans (by kernel_rfl))
  obtain ⟨u, hu, hok⟩ := hcell 1 v1 rfl
  obtain rfl : 22 = u := Option.some.inj hu
  rcases open_ints Tryd.underlying22 Tryd.underlying64 (by kernel_rfl) t1 with ⟨e1, _⟩ | ⟨a, len, cap, zs, e1, _, hl, hm, hz, _, hc, hwf⟩
  · obtain rfl : v1 = .slice none 0 0 := by simpa using e1
    exact ⟨b, none, 0, [], rfl, Rd.nil _ _⟩
  · obtain rfl : v1 = .slice (some a) len cap := by simpa using e1
    have hs : a.spot = none := by
      simp only [Cell.okWide, Cell.ok, Tryd.underlying22] at hok
      exact hok.2.2.2.1
    obtain ⟨bb, o, s⟩ := a
    obtain rfl : s = none := hs
    obtain ⟨ds, hd1, hd2, hd3⟩ := digs_of_ints zs hwf
    have hzc : zs.length = cap := by simpa using hz
    refine ⟨b, some ⟨bb, o, none⟩, cap, ds.take len, by rw [List.length_take, Nat.min_eq_left (by omega)], hd1.take _, by rw [List.length_take]; omega, hm, fun h0 => ⟨bb, o, rfl, ?_, fun k hk => ?_⟩, fun a ha => by injection ha with ha; exact ⟨_, _, ha.symm⟩⟩
    · rw [List.length_take] at h0
      have h1 := hc 0 (by omega)
      exact World.block_lt_of_cell? W _ h1
    · rw [List.length_take] at hk
      have h1 := hc k (by omega)
      rw [addr_add] at h1
      rw [h1, List.getElem_take, hd3 k (by omega) (by omega), List.getD_eq_getElem?_getD, List.getElem?_eq_getElem (by omega)]
      rfl
end Go.Proofs.YtbijjiadokgmoaaDoor
