/- ContfracConverges answers true for all lists: what it does to the world. -/
import Derived.Test.YtbkombklfpjjpaaOpenI
import Derived.Test.YtbkombklfpjjpaaLawPath
import Derived.Test.YtbkombklfpjjpaaValueL
namespace Go.Proofs.Ytbkombklfpjjpaa
open Go.RowKit

theorem awake_law (l : List Int) (h : 100 < l.length) (A : Option Addr) (c : Nat) (w : World) (hl : (l.length : Int) ≤ 9223372036854775807) :
    Calls Try.prog 4 #[.slice A l.length c] w fun e w' => e = .returned (.bool true) ∧ Below w.heap.size w w' := by
  have h1 : (100 : Int) < (l.length : Int) := by omega
  go_enter Try.func4, Try.ntmps4
  go_wp2_with (first
    | (go_at_call 13; ((with_reducible refine (awake_any _).mono ?_); rintro e w1 ⟨rfl, hb⟩; have HB := Lib.hid hb; clear hb))
    | fail)
  go_ret
  exact ⟨rfl, HB.out⟩
set_option maxHeartbeats 6400000 in
set_option maxRecDepth 1000000 in
theorem converges_walk (l : List Int) (w : World) {A : Option Addr} {c : Nat} (f : RdZ w w.heap.size A c l ∧ (A = none → c = 0)) :
    Calls Try.prog 4 #[.slice A l.length c] w fun e w' => e = .returned (.bool true) ∧ Below w.heap.size w w' := by
  have hl := f.1.len
  by_cases h100 : 100 < l.length
  · exact awake_law l h100 A c w hl
  have R0 := Lib.hid f.1
  have HA := Lib.hid f.2
  have h1 : (l.length : Int) ≤ 100 := by omega
  have HL : Hid (l.length ≤ 1000) := by show _ ≤ _; omega
  have HC := Lib.hid (fun W A c (h : RdZ W W.heap.size A c l) => convX_any W h)
  have HR := Lib.hid (fun W A c (h : RdZ W W.heap.size A c l) => rconv_any W h)
  clear f h100
  rcases cv_cases l with ⟨h0, hne, hel, hcv⟩ | ⟨h0, hnil⟩
  · have hlen : (cvl l).length = l.length := cvg_len _ _ _ _ _ _ hcv
    have hpos : 0 < l.length := List.length_pos_iff.2 hne
    obtain ⟨L, hL⟩ : ∃ L, (cvl l).length = L + 1 := ⟨l.length - 1, by omega⟩
    obtain ⟨⟨P, Q⟩, hz⟩ : ∃ z, (cvl l)[L]? = some z := ⟨_, List.getElem?_eq_getElem (by omega)⟩
    have hz2 : (cvl l).getLast? = some (P, Q) := by rw [List.getLast?_eq_getElem?, hL]; exact hz
    have HV := Lib.hid (fun W A c B (h : RdZ W B A c l) (hB : B ≤ W.heap.size) => value_any P Q 0 W h hB (vaE_ok (x := (P, Q)) h0 hz2))
    have HO : Hid (∀ (W : World) A c b, W.ownsRow b 23 2 (.slice A (L + 1) c) (L + 1) (cs (cvl l)) → RdC W W.heap.size A c (cvl l)) := fun W A c b h => own_rdc (by rw [hL]; exact h)
    have HZ := Lib.hid hz
    have HLL := Lib.hid hL
    have hLL : (L : Int) + 1 ≤ 100 := by omega
    rw [h0, hL] at HC HR
    clear h0 hne hel hcv hpos hz hz2 hlen hL
    generalize cvl l = C at *
    go_enter Try.func4, Try.ntmps4
    go_wp2_with (first
      | (go_at_call 13; ((with_reducible refine (awake_any _).mono ?_); rintro e w1 ⟨rfl, hb⟩; have R1 := Lib.hid (R0.out.below hb); have HB1 := Lib.hid hb; have HZ1 : Hid (w.heap.size ≤ w1.heap.size) := hb.size; clear hb))
      | (at_builtin; (refine app_copy (w0 := w1) rfl _ _ rfl rfl rfl R1.out HZ1.out HA.out HL.out ?_); intro A2 c2 w2 hr hb; have R2 := Lib.hid hr; have S2 := Lib.hid (R1.out.below (hb.mono HZ1.out)); have HB2 : Hid (Below w.heap.size w w2) := bel0 HB1.out hb; clear hr hb)
      | (go_at_call 18; ((with_reducible refine (HC.out _ _ _ R2.out).mono ?_); rintro e w3 ⟨A3, c3, rfl, ho, hb⟩; have C3 := Lib.hid (HO.out _ _ _ _ ho); have S3 := Lib.hid (S2.out.below (hb.mono HB2.out.size)); have HB3 : Hid (Below w.heap.size w w3) := bel0 HB2.out hb; have HR3 : Hid (RdZ w3 w3.heap.size A c l) := (S3.out.mono HB3.out.size); clear ho hb))
      | (go_at_call 19; ((with_reducible refine (HR.out _ _ _ HR3.out).mono ?_); rintro e w4 ⟨A4, c4, rfl, ho, hb⟩; have C4 := Lib.hid (HO.out _ _ _ _ ho); have D4 := Lib.hid ((C3.out.below hb).mono hb.size); have S4 := Lib.hid (S3.out.below (hb.mono HB3.out.size)); have HB4 : Hid (Below w.heap.size w w4) := bel0 HB3.out hb; clear ho hb))
      | (at_builtin; (refine app_copy (w0 := w4) rfl _ _ rfl rfl rfl S4.out HB4.out.size HA.out HL.out ?_); intro A5 c5 w5 hr hb; have R5 := Lib.hid hr; have C5 := Lib.hid (C4.out.below hb); have HZ45 : Hid (w4.heap.size ≤ w5.heap.size) := hb.size; have D5 := Lib.hid (D4.out.below hb); have HB5 : Hid (Below w.heap.size w w5) := bel0 HB4.out hb; clear hr hb)
      | (go_at_call 17; ((with_reducible refine (HV.out _ _ _ _ R5.out (Nat.le_refl _)).mono ?_); rintro e w6 ⟨rfl, hb⟩; have C6 := Lib.hid (C5.out.below (hb.mono HZ45.out)); have D6 := Lib.hid (D5.out.below (hb.mono HZ45.out)); have HB6 : Hid (Below w.heap.size w w6) := bel0 HB5.out hb; obtain ⟨b4, o4, rfl, hb4⟩ := C6.out.some_ (by rw [HLL.out]; omega); obtain ⟨x0, x1⟩ := C6.out.get HZ.out; have HZ46 : Hid (w4.heap.size ≤ w6.heap.size) := (by have := hb.size; have := HZ45.out; show _ ≤ _; omega); have hz6 : b4 < w6.heap.size := (by have := hb.size; have := HZ45.out; omega); clear hb))
      | fail)
    refine (same_n _ HLL.out (D6.out.below ((below2 _ _ _).mono HZ46.out)) (C6.out.below ((below2 _ _ _).mono HZ46.out))).mono ?_
    rintro e w7 ⟨rfl, n7, rfl⟩
    go_wp2
    go_ret
    exact ⟨rfl, below_drewN (bel0 HB6.out (below2 _ _ _)) n7⟩
  · have hk : ¬ cvI l = 0 := by omega
    have hk1 : (cvI l == 0) = false := by simpa using hk
    have HV := Lib.hid (fun W A c B (h : RdZ W B A c l) (hB : B ≤ W.heap.size) => value_any 0 0 (cvI l) W h hB (vaE_no hk))
    rw [hnil] at HC HR
    clear h0 hk hnil
    generalize cvI l = j at *
    go_enter Try.func4, Try.ntmps4
    go_wp2_with (first
      | (go_at_call 13; ((with_reducible refine (awake_any _).mono ?_); rintro e w1 ⟨rfl, hb⟩; have R1 := Lib.hid (R0.out.below hb); have HB1 := Lib.hid hb; have HZ1 : Hid (w.heap.size ≤ w1.heap.size) := hb.size; clear hb))
      | (at_builtin; (refine app_copy (w0 := w1) rfl _ _ rfl rfl rfl R1.out HZ1.out HA.out HL.out ?_); intro A2 c2 w2 hr hb; have R2 := Lib.hid hr; have S2 := Lib.hid (R1.out.below (hb.mono HZ1.out)); have HB2 : Hid (Below w.heap.size w w2) := bel0 HB1.out hb; clear hr hb)
      | (go_at_call 18; ((with_reducible refine (HC.out _ _ _ R2.out).mono ?_); rintro e w3 ⟨A3, c3, rfl, ho, hb⟩; have C3 := Lib.hid (own_rdc (C := []) ho); have S3 := Lib.hid (S2.out.below (hb.mono HB2.out.size)); have HB3 : Hid (Below w.heap.size w w3) := bel0 HB2.out hb; have HR3 : Hid (RdZ w3 w3.heap.size A c l) := (S3.out.mono HB3.out.size); clear ho hb))
      | (go_at_call 19; ((with_reducible refine (HR.out _ _ _ HR3.out).mono ?_); rintro e w4 ⟨A4, c4, rfl, ho, hb⟩; have C4 := Lib.hid (own_rdc (C := []) ho); have D4 := Lib.hid ((C3.out.below hb).mono hb.size); have S4 := Lib.hid (S3.out.below (hb.mono HB3.out.size)); have HB4 : Hid (Below w.heap.size w w4) := bel0 HB3.out hb; clear ho hb))
      | (at_builtin; (refine app_copy (w0 := w4) rfl _ _ rfl rfl rfl S4.out HB4.out.size HA.out HL.out ?_); intro A5 c5 w5 hr hb; have R5 := Lib.hid hr; have C5 := Lib.hid (C4.out.below hb); have HZ45 : Hid (w4.heap.size ≤ w5.heap.size) := hb.size; have D5 := Lib.hid (D4.out.below hb); have HB5 : Hid (Below w.heap.size w w5) := bel0 HB4.out hb; clear hr hb)
      | (go_at_call 17; ((with_reducible refine (HV.out _ _ _ _ R5.out (Nat.le_refl _)).mono ?_); rintro e w6 ⟨rfl, hb⟩; have C6 := Lib.hid (C5.out.below (hb.mono HZ45.out)); have D6 := Lib.hid (D5.out.below (hb.mono HZ45.out)); have HB6 : Hid (Below w.heap.size w w6) := bel0 HB5.out hb; have HZ46 : Hid (w4.heap.size ≤ w6.heap.size) := (by have := hb.size; have := HZ45.out; show _ ≤ _; omega); clear hb))
      | fail)
    refine (same_n _ List.length_nil (D6.out.below ((below2 _ _ _).mono HZ46.out)) (C6.out.below ((below2 _ _ _).mono HZ46.out))).mono ?_
    rintro e w7 ⟨rfl, n7, rfl⟩
    go_wp2
    go_ret
    exact ⟨rfl, below_drewN (bel0 HB6.out (below2 _ _ _)) n7⟩
end Go.Proofs.Ytbkombklfpjjpaa
