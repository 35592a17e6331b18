/- Contracts of the reference's Sub and Cmp; the reference's operations in the words of integers. -/
import Derived.Test.YtbijjiadokgmoaaDoorRAdd
import Derived.Test.YtbijjiadokgmoaaDoorRMul
import Derived.Test.YtbijjiadokgmoaaDoorRSmall
namespace Go.Proofs.YtbijjiadokgmoaaDoor
open Go.RowKit

section
variable {w : World} {B l1 l2 : Nat} {v1 v2 : Value} {a b : Int}
theorem radd_raw (h1 : Raw w B v1 a l1) (h2 : Raw w B v2 b l2) (hB : B ≤ w.heap.size) (b1 : l1 ≤ 400000) (b2 : l2 ≤ 400000) : Calls Tryd.prog 31 #[v1, v2] w (IntRet w (a + b)) := by
  obtain ⟨n, A, c, xs, rfl, r1, rfl, k1⟩ := h1
  obtain ⟨m, A', c', ys, rfl, r2, rfl, k2⟩ := h2
  exact radd_any n m w r1 r2 hB (by omega) (by omega)
theorem rmul_raw (h1 : Raw w B v1 a l1) (h2 : Raw w B v2 b l2) (hB : B ≤ w.heap.size) (b1 : l1 ≤ 400000) (b2 : l2 ≤ 400000) : Calls Tryd.prog 35 #[v1, v2] w (IntRet w (a * b)) := by
  obtain ⟨n, A, c, xs, rfl, r1, rfl, k1⟩ := h1
  obtain ⟨m, A', c', ys, rfl, r2, rfl, k2⟩ := h2
  exact rmul_any n m w r1 r2 hB (by omega) (by omega)
end
set_option maxHeartbeats 1600000 in
set_option maxRecDepth 1000000 in
theorem rsub_any {B l1 l2 k1 k2 la lb : Nat} {A1 A2 : Option Addr} {a b : Int} (n1 n2 : Bool) (w : World) (h1 : Raw w B (.agg #[.bool n1, .slice A1 la k1]) a l1) (h2 : Raw w B (.agg #[.bool n2, .slice A2 lb k2]) b l2) (hB : B ≤ w.heap.size) (b1 : l1 ≤ 300000) (b2 : l2 ≤ 300000) :
    Calls Tryd.prog 33 #[.agg #[.bool n1, .slice A1 la k1], .agg #[.bool n2, .slice A2 lb k2]] w (IntRet w (a - b)) := by
  have hln : (digs (-b).natAbs).length ≤ l2 := by rw [Int.natAbs_neg]; exact digs_len h2.len
  have HN := Lib.hid (fun (W : World) (hg : Gr w W) => rneg_raw (h2.gr hg hB) (Nat.le_refl _) (by omega))
  have HA := Lib.hid (fun (W : World) (v : Value) (hg : Gr w W) (h : Raw W W.heap.size v (-b) l2) => radd_raw (h1.gr hg hB) h (Nat.le_refl _) (by omega) (by omega))
  have HL := Lib.hid hln
  clear h1 h2 hln
  rw [Int.sub_eq_add_neg]
  generalize a + -b = z at *
  have HS := Lib.hid (rst_boxes w (.bool n1) (.slice A1 la k1) (.bool n2) (.slice A2 lb k2) (.bool false) (.slice none 0 0))
  have GG : Hid (Gr (((w.alloc (.cells #[.bool n1, .slice A1 la k1] 24)).alloc (.cells #[.bool n2, .slice A2 lb k2] 24)).alloc (.cells #[.bool false, .slice none 0 0] 24)) (((w.alloc (.cells #[.bool n1, .slice A1 la k1] 24)).alloc (.cells #[.bool n2, .slice A2 lb k2] 24)).alloc (.cells #[.bool false, .slice none 0 0] 24))) := Gr.refl _
  obtain ⟨x1, x2, x3, x4, x5, x6⟩ := HS.out.cells
  go_enter Tryd.func33, Tryd.ntmps33
  go_wp2_with fail
  go_region_held3 (fun w' => w'.cell? ⟨w.heap.size, 0, none⟩ = some (.bool n1) ∧ w'.cell? ⟨w.heap.size, 1, none⟩ = some (.slice A1 la k1) ∧ w'.cell? ⟨w.heap.size + 1, 0, none⟩ = some (.bool n2) ∧ w'.cell? ⟨w.heap.size + 1, 1, none⟩ = some (.slice A2 lb k2))
    (first | exact ⟨x1, x2, x3, x4⟩ | exact ⟨p1, p2, p3, p4⟩ | exact ⟨q1, q2, q3, q4⟩ | exact ⟨cell_two q1 (by omega), cell_two q2 (by omega), cell_two q3 (by omega), cell_two q4 (by omega)⟩ | fail)
    (first
      | (go_at_call 27; ((with_reducible refine (HN.out _ (HS.out.next GG.out.drew).gr).mono ?_); rintro e v1 ⟨v, rfl, hi1, hb1⟩; have S1 := Lib.hid (HS.out.next (GG.out.drew.call hb1)); have HR := Lib.hid (IntIn.raw hi1 HL.out); have hc := S1.out.cells; obtain ⟨p1, p2, p3, p4, _, _⟩ := hc; clear hi1 hb1))
      | (go_at_call 31; ((with_reducible refine (HA.out _ _ S1.out.gr HR.out).mono ?_); rintro e v2 ⟨v', rfl, hi2, hb2⟩; have S2 := Lib.hid (S1.out.next hb2); have HI := Lib.hid hi2; obtain ⟨A', c', hv, _, _⟩ := hi2; subst hv; have hc := S2.out.cells; obtain ⟨q1, q2, q3, q4, _, _⟩ := hc; have hz := S2.out.three.reads; obtain ⟨z1, z2, z3, z4⟩ := hz; have hs1 := S1.out.size; clear hb2))
      | fail)
  go_wp2
  refine bodyPost_ret (v := .agg #[.bool (decide (z < 0)), .slice A' (digs z.natAbs).length c']) ?_ rfl ⟨_, rfl, HI.out.stored2 (by omega) (by omega) _ _, ?_⟩
  · simp [results, Tryd.results33, go_sem, z1, z2]
  exact (S2.out.gr.set2 (by omega) _ _)
theorem rsub_raw {w : World} {B l1 l2 : Nat} {v1 v2 : Value} {a b : Int} (h1 : Raw w B v1 a l1) (h2 : Raw w B v2 b l2) (hB : B ≤ w.heap.size) (b1 : l1 ≤ 300000) (b2 : l2 ≤ 300000) : Calls Tryd.prog 33 #[v1, v2] w (IntRet w (a - b)) := by
  have k1 := h1
  have k2 := h2
  obtain ⟨n, A, c, xs, rfl, _⟩ := h1
  obtain ⟨m, A', c', ys, rfl, _⟩ := h2
  exact rsub_any n m w k1 k2 hB b1 b2
theorem sub_sign (a b : Int) : (a - b).sign = cmpZ a b := by
  rcases Int.lt_trichotomy a b with h | h | h
  · rw [cmpZ_lt h, Int.sign_eq_neg_one_of_neg (by omega)]
  · subst h; rw [cmpZ_eq, Int.sub_self]; rfl
  · rw [cmpZ_gt h, Int.sign_eq_one_of_pos (by omega)]
set_option maxHeartbeats 1600000 in
set_option maxRecDepth 1000000 in
theorem rcmp_any {B l1 l2 k1 k2 la lb : Nat} {A1 A2 : Option Addr} {a b : Int} (n1 n2 : Bool) (w : World) (h1 : Raw w B (.agg #[.bool n1, .slice A1 la k1]) a l1) (h2 : Raw w B (.agg #[.bool n2, .slice A2 lb k2]) b l2) (hB : B ≤ w.heap.size) (b1 : l1 ≤ 100000) (b2 : l2 ≤ 100000) :
    Calls Tryd.prog 37 #[.agg #[.bool n1, .slice A1 la k1], .agg #[.bool n2, .slice A2 lb k2]] w fun e w' => e = .returned (.int .i64 (cmpZ a b)) ∧ Below w.heap.size w w' := by
  have hl : (digs (a - b).natAbs).length ≤ l1 + l2 + 1 := by
    refine digs_len ?_
    have e1 := h1.len
    have e2 := h2.len
    have e3 : (4294967296 : Nat) ^ l1 ≤ 4294967296 ^ (l1 + l2) := Nat.pow_le_pow_right (by omega) (by omega)
    have e4 : (4294967296 : Nat) ^ l2 ≤ 4294967296 ^ (l1 + l2) := Nat.pow_le_pow_right (by omega) (by omega)
    rw [Nat.pow_succ]
    generalize (4294967296 : Nat) ^ (l1 + l2) = P at *
    generalize (4294967296 : Nat) ^ l1 = P1 at *
    generalize (4294967296 : Nat) ^ l2 = P2 at *
    omega
  have HSB := Lib.hid (fun (W : World) (hg : Gr w W) => rsub_raw (h1.gr hg hB) (h2.gr hg hB) (Nat.le_refl _) (by omega) (by omega))
  have HSI := Lib.hid (fun (W : World) (v : Value) (h : Raw W W.heap.size v (a - b) (l1 + l2 + 1)) => (sub_sign a b ▸ rsign_raw h (Nat.le_refl _) (by omega) : Calls Tryd.prog 23 #[v] W fun e w' => e = .returned (.int .i64 (cmpZ a b)) ∧ Below W.heap.size W w'))
  have HL := Lib.hid hl
  clear h1 h2 hl
  generalize a - b = z at *
  generalize cmpZ a b = r at *
  have G2 : Hid (Gr w ((w.alloc (.cells #[.bool n1, .slice A1 la k1] 24)).alloc (.cells #[.bool n2, .slice A2 lb k2] 24))) := ((Gr.refl _).alloc _).alloc _
  go_enter Tryd.func37, Tryd.ntmps37
  go_wp2_with (go_at_call 33; fail)
  refine (HSB.out _ G2.out).mono ?_
  rintro e v1 ⟨v, rfl, hi, hb⟩
  have HR := Lib.hid (IntIn.raw hi HL.out)
  have G3 : Hid (Gr w v1) := G2.out.call hb
  clear hi hb
  go_wp2_with (go_at_call 23; fail)
  refine (HSI.out _ _ HR.out).mono ?_
  rintro e v2 ⟨rfl, hb2⟩
  have G4 : Hid (Gr w v2) := G3.out.call hb2
  clear hb2
  go_wp2
  go_ret
  exact ⟨rfl, G4.out⟩
theorem rcmp_is {w : World} {B l1 l2 : Nat} {v1 v2 : Value} {a b r : Int} (he : cmpZ a b = r) (h1 : Raw w B v1 a l1) (h2 : Raw w B v2 b l2) (hB : B ≤ w.heap.size) (b1 : l1 ≤ 100000) (b2 : l2 ≤ 100000) : Calls Tryd.prog 37 #[v1, v2] w fun e w' => e = .returned (.int .i64 r) ∧ Below w.heap.size w w' := by
  subst he
  have k1 := h1
  have k2 := h2
  obtain ⟨n, A, c, xs, rfl, _⟩ := h1
  obtain ⟨m, A', c', ys, rfl, _⟩ := h2
  exact rcmp_any n m w k1 k2 hB b1 b2
end Go.Proofs.YtbijjiadokgmoaaDoor
