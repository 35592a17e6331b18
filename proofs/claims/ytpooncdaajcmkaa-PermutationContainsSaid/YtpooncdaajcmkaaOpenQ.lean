/- An argument that is a pair of matrices, opened. -/
import Derived.Test.YtpooncdaajcmkaaOpenM
import Derived.Test.YtpooncdaajcmkaaCommon
namespace Go.Proofs.Ytpooncdaajcmkaa
open Go.ChangeShapes Go.WideShapes Go.ChangeAt Go.RowKit Go.Joins

set_option maxRecDepth 100000 in
theorem open_mpair_arg {H : Type} {enc : TypeId × Value → H} {W : World} {b0 : Nat} {v : Value} {d : DataW H} {p : List MemPlace} (hv : Value.okWide Try.prog W .any b0 38 v) (h : DataW.Trod enc Try.prog W 0 (fun _ => true) true 38 v d p) :
    ∃ a b c d a' b' c' d' : Int, v = .agg #[.int .i64 a, .int .i64 b, .int .i64 c, .int .i64 d, .int .i64 a', .int .i64 b', .int .i64 c', .int .i64 d'] := by
  simp only [Value.okWide, Try.underlying38] at hv
  obtain ⟨cs, rfl, hsz, hall⟩ := hv
  have hs8 : cs.size = 8 := hsz.trans (by kernel_rfl)
  obtain ⟨c0, c1, c2, c3, c4, c5, c6, c7, rfl⟩ : ∃ c0 c1 c2 c3 c4 c5 c6 c7, cs = #[c0, c1, c2, c3, c4, c5, c6, c7] := by
    rcases cs with ⟨l⟩
    simp at hs8
    match l, hs8 with
    | [c0, c1, c2, c3, c4, c5, c6, c7], _ => exact ⟨_, _, _, _, _, _, _, _, rfl⟩
  clear hall hsz hs8
  obtain ⟨fuel, hf⟩ := h
  obtain ⟨xs, m, _, _, _, hxl, hi⟩ := DataW.trod_array Try.underlying38 hf
  have hc : Try.prog.cellsOf 32 = 4 := by kernel_rfl
  have h0 := hi 0 (by omega)
  have h1 := hi 1 (by omega)
  rw [hc] at h0 h1
  rw [List.getElem?_eq_getElem (by omega)] at h0 h1
  have h0' : DataW.trod enc Try.prog W 0 (fun _ => true) true m 32 [c0, c1, c2, c3] = some xs[0] := h0
  have h1' : DataW.trod enc Try.prog W 0 (fun _ => true) true m 32 [c4, c5, c6, c7] = some xs[1] := h1
  clear h0 h1 hi hf
  obtain ⟨y0, y1, y2, y3, n, hx, _, t0, t1, t2, t3⟩ := trod_struct4 Try.underlying32 h0'
  obtain ⟨y4, y5, y6, y7, n', hx', _, t4, t5, t6, t7⟩ := trod_struct4 Try.underlying32 h1'
  have hci : Try.prog.cellsOf 3 = 1 := by kernel_rfl
  have s0 : DataW.trod enc Try.prog W 0 (fun _ => true) true n 3 [c0] = some y0 := by simpa [hci] using t0
  have s1 : DataW.trod enc Try.prog W 0 (fun _ => true) true n 3 [c1] = some y1 := by simpa [hci] using t1
  have s2 : DataW.trod enc Try.prog W 0 (fun _ => true) true n 3 [c2] = some y2 := by simpa [hci] using t2
  have s3 : DataW.trod enc Try.prog W 0 (fun _ => true) true n 3 [c3] = some y3 := by simpa [hci] using t3
  have s4 : DataW.trod enc Try.prog W 0 (fun _ => true) true n' 3 [c4] = some y4 := by simpa [hci] using t4
  have s5 : DataW.trod enc Try.prog W 0 (fun _ => true) true n' 3 [c5] = some y5 := by simpa [hci] using t5
  have s6 : DataW.trod enc Try.prog W 0 (fun _ => true) true n' 3 [c6] = some y6 := by simpa [hci] using t6
  have s7 : DataW.trod enc Try.prog W 0 (fun _ => true) true n' 3 [c7] = some y7 := by simpa [hci] using t7
  obtain ⟨x0, e0, _⟩ := DataW.trod_int Try.underlying3 s0
  obtain ⟨x1, e1, _⟩ := DataW.trod_int Try.underlying3 s1
  obtain ⟨x2, e2, _⟩ := DataW.trod_int Try.underlying3 s2
  obtain ⟨x3, e3, _⟩ := DataW.trod_int Try.underlying3 s3
  obtain ⟨x4, e4, _⟩ := DataW.trod_int Try.underlying3 s4
  obtain ⟨x5, e5, _⟩ := DataW.trod_int Try.underlying3 s5
  obtain ⟨x6, e6, _⟩ := DataW.trod_int Try.underlying3 s6
  obtain ⟨x7, e7, _⟩ := DataW.trod_int Try.underlying3 s7
  simp at e0 e1 e2 e3 e4 e5 e6 e7
  exact ⟨x0, x1, x2, x3, x4, x5, x6, x7, by rw [e0, e1, e2, e3, e4, e5, e6, e7]⟩
end Go.Proofs.Ytpooncdaajcmkaa
