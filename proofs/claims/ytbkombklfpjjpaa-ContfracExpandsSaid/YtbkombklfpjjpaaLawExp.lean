/- ContfracExpands answers true for all cusps: what it does to the world. -/
import Derived.Test.YtbkombklfpjjpaaLawK
import Derived.Test.YtbkombklfpjjpaaValueL
import Derived.Test.YtbkombklfpjjpaaRExpL
namespace Go.Proofs.Ytbkombklfpjjpaa
open Go.RowKit

theorem ints_n {l : List Int} {B1 B2 c1 c2 n : Nat} {A1 A2 : Option Addr} (w : World) (hn : l.length = n) (h1 : RdZ w B1 A1 c1 l) (h2 : RdZ w B2 A2 c2 l) :
    Calls Try.prog 16 #[.slice A1 n c1, .slice A2 n c2] w fun e w' => e = .returned (.bool true) ∧ ∃ n, w' = w.drewN n := by
  subst hn; exact ints_same w h1 h2
theorem vaE_cfe {p q : Int} (h : cuspI p q = 0) (hq : 0 < q) : vaE (cfe p q) = (p, q, 0) := by
  obtain ⟨C, c1, c2, c3⟩ := cvg_cfe h hq
  obtain ⟨v1, v2⟩ := cvI_ok (cfe_ne hq) (elB_cfe h hq) c1
  exact vaE_ok (x := (p, q)) v1 (by rw [v2]; exact c3)
set_option maxHeartbeats 3200000 in
set_option maxRecDepth 1000000 in
theorem expands_walk (p q : Int) (w : World) :
    Calls Try.prog 3 #[.agg #[.int .i64 p, .int .i64 q]] w fun e w' => e = .returned (.bool true) ∧ Below w.heap.size w w' := by
  have HA := Lib.hid (fun W => expand_any p q W)
  have HR := Lib.hid (fun W => rexpand_any p q W)
  by_cases h : expI p q = 0
  · obtain ⟨h1, h2, h3⟩ := exp_ok h
    have HV := Lib.hid (fun W A c B (hr : RdZ W B A c (cfe p q)) (hB : B ≤ W.heap.size) => value_any p q 0 W hr hB (vaE_cfe h1 h2))
    rw [h, h3] at HA HR
    clear h h1 h2 h3
    generalize cfe p q = l at *
    go_enter Try.func3, Try.ntmps3
    go_wp2_with (first
      | (go_at_call 13; ((with_reducible refine (awake_any _).mono ?_); rintro e w1 ⟨rfl, hb⟩; have P_w1 := Lib.hid ((Two.at w (g := w.heap.size) rfl p q).below hb); have HB_w1 : Hid (Below w.heap.size w w1) := bel1 (Below.refl _ _) hb; obtain ⟨p0, p1⟩ := P_w1.out.cells; have lt1 := P_w1.out.lt; clear hb))
      | (go_at_call 14; ((with_reducible refine (HA.out _).mono ?_); rintro e w2 ⟨A1, c1, rfl, hr, _, hb⟩; have R1 := Lib.hid hr; have P_w2 := Lib.hid (P_w1.out.below hb); have HB_w2 : Hid (Below w.heap.size w w2) := bel0 HB_w1.out hb; obtain ⟨q0, q1⟩ := P_w2.out.cells; have lt2 := P_w2.out.lt; clear hr hb))
      | (go_at_call 15; ((with_reducible refine (HR.out _).mono ?_); rintro e w3 ⟨A2, c2, rfl, hr, _, hb⟩; have R2 := Lib.hid hr; have R3 := Lib.hid (R1.out.below hb); have P_w3 := Lib.hid (P_w2.out.below hb); have HB_w3 : Hid (Below w.heap.size w w3) := bel0 HB_w2.out hb; have hz3 : w2.heap.size ≤ w3.heap.size := hb.size; clear hr hb))
      | (go_at_call 16; ((with_reducible refine (ints_same _ R3.out R2.out).mono ?_); rintro e w4 ⟨rfl, n4, hw⟩; have R4 : Hid (RdZ w4 w2.heap.size A1 c1 l) := (by rw [hw]; exact R3.out); have P_w4 : Hid (Two w4 w.heap.size p q) := (by rw [hw]; exact P_w3.out); have HB_w4 : Hid (Below w.heap.size w w4) := (by rw [hw]; exact below_drewN HB_w3.out _); have hz4 : w2.heap.size ≤ w4.heap.size := (by rw [hw]; exact hz3); clear hw))
      | (go_at_call 17; ((with_reducible refine (HV.out _ _ _ _ R4.out hz4).mono ?_); rintro e w5 ⟨rfl, hb⟩; have P_w5 := Lib.hid (P_w4.out.below hb); have HB_w5 : Hid (Below w.heap.size w w5) := bel0 HB_w4.out hb; obtain ⟨r0, r1⟩ := P_w5.out.cells; have lt5 := P_w5.out.lt; clear hb))
      | fail)
    go_ret
    exact ⟨rfl, bel0 HB_w5.out (below1 _ _)⟩
  · have hk1 : (expI p q != 0) = true := by simpa using h
    rw [exl_nil h] at HA HR
    clear h
    generalize expI p q = k at *
    go_enter Try.func3, Try.ntmps3
    go_wp2_with (first
      | (go_at_call 13; ((with_reducible refine (awake_any _).mono ?_); rintro e w1 ⟨rfl, hb⟩; have P_w1 := Lib.hid ((Two.at w (g := w.heap.size) rfl p q).below hb); have HB_w1 : Hid (Below w.heap.size w w1) := bel1 (Below.refl _ _) hb; obtain ⟨p0, p1⟩ := P_w1.out.cells; have lt1 := P_w1.out.lt; clear hb))
      | (go_at_call 14; ((with_reducible refine (HA.out _).mono ?_); rintro e w2 ⟨A1, c1, rfl, hr, _, hb⟩; have R1 := Lib.hid hr; have P_w2 := Lib.hid (P_w1.out.below hb); have HB_w2 : Hid (Below w.heap.size w w2) := bel0 HB_w1.out hb; obtain ⟨q0, q1⟩ := P_w2.out.cells; have lt2 := P_w2.out.lt; clear hr hb))
      | (go_at_call 15; ((with_reducible refine (HR.out _).mono ?_); rintro e w3 ⟨A2, c2, rfl, hr, _, hb⟩; have R2 := Lib.hid hr; have R3 := Lib.hid (R1.out.below hb); have HB_w3 : Hid (Below w.heap.size w w3) := bel0 HB_w2.out hb; clear hr hb))
      | (go_at_call 16; ((with_reducible refine (ints_n _ List.length_nil R3.out R2.out).mono ?_); rintro e w4 ⟨rfl, n4, hw⟩; have HB_w4 : Hid (Below w.heap.size w w4) := (by rw [hw]; exact below_drewN HB_w3.out _); clear hw))
      | fail)
    go_ret
    exact ⟨rfl, HB_w4.out⟩
end Go.Proofs.Ytbkombklfpjjpaa
