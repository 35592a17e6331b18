/- Sl2Applies answers true for all matrices and cusps: what it does to the world. -/
import Derived.Test.YtnccamhajndkjaaLawK
namespace Go.Proofs.Ytnccamhajndkjaa
open Go.RowKit

set_option maxHeartbeats 3200000 in
set_option maxRecDepth 1000000 in
theorem applies_walk (a b c d p q : Int) (w : World) :
    Calls Try.prog 6 #[.agg #[.int .i64 a, .int .i64 b, .int .i64 c, .int .i64 d], .agg #[.int .i64 p, .int .i64 q]] w fun e w' => e = .returned (.bool true) ∧ Below w.heap.size w w' := by
  obtain ⟨u, v, k, hr⟩ : ∃ u v k, appE a b c d p q = (u, v, k) := ⟨_, _, _, rfl⟩
  have HA := Lib.hid (fun W => apply_any a b c d p q u v k W hr)
  have HR := Lib.hid (fun W => rapply_any a b c d p q u v k W hr)
  have HC := Lib.hid (fun W => checkCusp_any p q W)
  have HD := Lib.hid (fun W => rcheckCusp_any p q W)
  clear hr
  generalize cuspI p q = j at *
  go_enter Try.func6, Try.ntmps6
  go_wp2_with (first
    | (go_at_call 12; ((with_reducible refine (awake_any _).mono ?_); rintro e w1 ⟨rfl, hb⟩; have P0_w1 := Lib.hid ((((Four.at w (g := w.heap.size) rfl a b c d)).alloc _).below hb); have P1_w1 := Lib.hid (((Two.at ((w).alloc _) (g := w.heap.size + 1) (by simp) p q)).below hb); have HB_w1 : Hid (Below w.heap.size w w1) := bel2 (Below.refl _ _) hb; obtain ⟨p0w10, p0w11, p0w12, p0w13⟩ := P0_w1.out.cells; have ltP0_w1 := P0_w1.out.lt; obtain ⟨p1w10, p1w11⟩ := P1_w1.out.cells; have ltP1_w1 := P1_w1.out.lt; clear hb))
    | (go_at_call 23; ((with_reducible refine (HA.out _).mono ?_); rintro e w2 ⟨rfl, hb⟩; have P0_w2 := Lib.hid ((P0_w1.out).below hb); have P1_w2 := Lib.hid ((P1_w1.out).below hb); have HB_w2 : Hid (Below w.heap.size w w2) := bel0 HB_w1.out hb; obtain ⟨p0w20, p0w21, p0w22, p0w23⟩ := P0_w2.out.cells; have ltP0_w2 := P0_w2.out.lt; obtain ⟨p1w20, p1w21⟩ := P1_w2.out.cells; have ltP1_w2 := P1_w2.out.lt; clear hb))
    | (go_at_call 24; ((with_reducible refine (HR.out _).mono ?_); rintro e w3 ⟨rfl, hb⟩; have P0_w3 := Lib.hid (((P0_w2.out).alloc _).below hb); have P1_w3 := Lib.hid (((P1_w2.out).alloc _).below hb); have A_w3 := Lib.hid (((Two.at w2 (g := w2.heap.size) rfl u v)).below hb); have HB_w3 : Hid (Below w.heap.size w w3) := bel1 HB_w2.out hb; obtain ⟨p0w30, p0w31, p0w32, p0w33⟩ := P0_w3.out.cells; have ltP0_w3 := P0_w3.out.lt; obtain ⟨p1w30, p1w31⟩ := P1_w3.out.cells; have ltP1_w3 := P1_w3.out.lt; obtain ⟨aw30, aw31⟩ := A_w3.out.cells; have ltA_w3 := A_w3.out.lt; clear hb))
    | fail)
  have HB_z0 : Hid (Below w.heap.size w (w3.alloc (.cells #[.int .i64 u, .int .i64 v] 45)).drew) := (HB_w3.out.trans ((below1 _ _).mono HB_w3.out.size)).drew
  have A_z0 : Hid (Two (w3.alloc (.cells #[.int .i64 u, .int .i64 v] 45)).drew w2.heap.size u v) := (A_w3.out.alloc _).drew
  have B_z0 : Hid (Two (w3.alloc (.cells #[.int .i64 u, .int .i64 v] 45)).drew w3.heap.size u v) := (Two.at w3 rfl u v).drew
  have P1_z0 : Hid (Two (w3.alloc (.cells #[.int .i64 u, .int .i64 v] 45)).drew (w.heap.size + 1) p q) := (P1_w3.out.alloc _).drew
  go_region_held3 (fun w' => (w'.cell? ⟨w2.heap.size, 0, none⟩ = some (.int .i64 u) ∧ w'.cell? ⟨w2.heap.size, 1, none⟩ = some (.int .i64 v)) ∧ (w'.cell? ⟨w3.heap.size, 0, none⟩ = some (.int .i64 u) ∧ w'.cell? ⟨w3.heap.size, 1, none⟩ = some (.int .i64 v)) ∧ (w'.cell? ⟨w.heap.size + 1, 0, none⟩ = some (.int .i64 p) ∧ w'.cell? ⟨w.heap.size + 1, 1, none⟩ = some (.int .i64 q)))
    (with_reducible first | exact ⟨A_z2.out.cells, B_z2.out.cells, P1_z2.out.cells⟩ | exact ⟨A_z1.out.cells, B_z1.out.cells, P1_z1.out.cells⟩ | exact ⟨A_z0.out.cells, B_z0.out.cells, P1_z0.out.cells⟩ | fail)
    (first
      | (go_at_call 25; ((with_reducible refine (HC.out _).mono ?_); rintro e z1 ⟨rfl, hb⟩; have A_z1 := Lib.hid ((A_z0.out).below hb); have B_z1 := Lib.hid ((B_z0.out).below hb); have P1_z1 := Lib.hid ((P1_z0.out).below hb); have HB_z1 : Hid (Below w.heap.size w z1) := bel0 HB_z0.out hb; clear hb))
      | (go_at_call 26; ((with_reducible refine (HD.out _).mono ?_); rintro e z2 ⟨rfl, hb⟩; have A_z2 := Lib.hid ((A_z1.out).below hb); have B_z2 := Lib.hid ((B_z1.out).below hb); have P1_z2 := Lib.hid ((P1_z1.out).below hb); have HB_z2 : Hid (Below w.heap.size w z2) := bel0 HB_z1.out hb; clear hb))
      | fail)
  go_wp2
  go_ret
  exact ⟨rfl, HB_z2.out⟩
end Go.Proofs.Ytnccamhajndkjaa
