/- An argument that is a group, opened. -/
import Derived.Test.YtilfkppapimocaaOpenM
namespace Go.Proofs.Ytilfkppapimocaa
open Go.ChangeShapes Go.WideShapes Go.ChangeAt Go.RowKit Go.Joins

set_option maxRecDepth 100000 in
theorem open_group_arg {H : Type} {enc : TypeId × Value → H} {W : World} {b0 : Nat} {v : Value} {d : DataW H} {p : List MemPlace} (hv : Value.okWide Try.prog W .any b0 24 v) (h : DataW.Trod enc Try.prog W 0 (fun _ => true) true 24 v d p) :
    ∃ a b : Int, v = .agg #[.int .i64 a, .int .i64 b] := by
  obtain ⟨v0, v1, y0, y1, n, rfl, hd, hp, t0, t1⟩ := open_agg2 Try.underlying24 (by kernel_rfl) (by kernel_rfl) hv h
  obtain ⟨x0, e0, _⟩ := DataW.trod_int Try.underlying22 t0
  obtain ⟨x1, e1, _⟩ := DataW.trod_int Try.underlying3 t1
  simp at e0 e1
  exact ⟨x0, x1, by rw [e0, e1]⟩
end Go.Proofs.Ytilfkppapimocaa
