/- The contract of awake. -/
import Derived.Test.YtbijjiadokgmoaaDoorFmtS
import Derived.Test.YtbijjiadokgmoaaDoorRaw
import Derived.Deep.RegionHeld3
namespace Go.Proofs.YtbijjiadokgmoaaDoor
open Go.RowKit

theorem IntIn.one {w0 w : World} {v : Value} {z : Int} {n : Nat} (h : IntIn w0 w v z) (hn : z.natAbs = n) (h0 : 0 < n) (h1 : n < 4294967296) : ∃ A c, v = .agg #[.bool (decide (z < 0)), .slice A 1 c] ∧ Rd w w.heap.size A c [n] := by
  obtain ⟨A, c, e, hr, _⟩ := h
  rw [hn, digs_one h0 h1] at e hr
  exact ⟨A, c, e, hr⟩
theorem dm_72 {c1 c2 : Nat} {A1 A2 : Option Addr} (w : World) (h1 : Rd w w.heap.size A1 c1 [7]) (h2 : Rd w w.heap.size A2 c2 [2]) :
    Calls Tryd.prog 38 #[.agg #[.bool true, .slice A1 1 c1], .agg #[.bool false, .slice A2 1 c2]] w (DMRet w (-4) 1) := by
  have e7 : val [7] = 7 := by simp [val]
  have e2 : val [2] = 2 := by simp [val]
  have d7 : digs 7 = [7] := digs_one (by omega) (by omega)
  have d2 : digs 2 = [2] := digs_one (by omega) (by omega)
  have h := divmod_any true false w h1 h2 (Nat.le_refl _) (by simp) (by simp) (by rw [e2]; omega) (fun W hb => by
    rw [e7, e2]
    exact divide_small W (by rw [d7]; exact h1.below hb) (by rw [d2]; exact h2.below hb) (by rw [d7]; simp) (by omega))
  rw [e7, e2] at h
  exact h

theorem keep4 {W w' : World} {p q : Nat} {a b c d : Value} (hb : Below W.heap.size W w') (hp : p < W.heap.size) (hq : q < W.heap.size) (h : W.cell? ⟨p, 0, none⟩ = some a ∧ W.cell? ⟨p, 1, none⟩ = some b ∧ W.cell? ⟨q, 0, none⟩ = some c ∧ W.cell? ⟨q, 1, none⟩ = some d) :
    w'.cell? ⟨p, 0, none⟩ = some a ∧ w'.cell? ⟨p, 1, none⟩ = some b ∧ w'.cell? ⟨q, 0, none⟩ = some c ∧ w'.cell? ⟨q, 1, none⟩ = some d :=
  ⟨(hb.cell (p := ⟨p, 0, none⟩) hp).trans h.1, (hb.cell (p := ⟨p, 1, none⟩) hp).trans h.2.1, (hb.cell (p := ⟨q, 0, none⟩) hq).trans h.2.2.1, (hb.cell (p := ⟨q, 1, none⟩) hq).trans h.2.2.2⟩
theorem same_true {w : World} {B c1 c2 : Nat} {A1 A2 : Option Addr} {n : Bool} {x : Nat} (h1 : Rd w B A1 c1 [x]) (h2 : Rd w B A2 c2 [x]) (hB : B ≤ w.heap.size) :
    Calls Tryd.prog 18 #[.agg #[.bool n, .slice A1 1 c1], .agg #[.bool n, .slice A2 1 c2]] w fun e w' => e = .returned (.bool true) ∧ Below w.heap.size w w' := by
  have := same_any n n w h1 h2 hB (by simp)
  rw [show sameB n n [x] [x] = true by simp [sameB]] at this
  exact this

set_option maxHeartbeats 3200000 in
set_option maxRecDepth 1000000 in
theorem awake_any (w : World) : Calls Tryd.prog 13 #[] w fun e w' => e = .returned (.bool true) ∧ Below w.heap.size w w' := by
  go_enter Tryd.func13, Tryd.ntmps13
  go_wp2_with (go_at_call 16; fail)
  refine (of_any (n := -7) w (by omega) (by omega)).mono ?_
  rintro e w1 ⟨v1, rfl, hi1, hb1⟩
  obtain ⟨A1, c1, rfl, hr1⟩ := hi1.one (n := 7) rfl (by omega) (by omega)
  have HR1 := Lib.hid hr1
  have HB1 := Lib.hid hb1
  clear hi1 hr1 hb1
  go_wp2_with (go_at_call 16; fail)
  refine (of_any (n := 2) w1 (by omega) (by omega)).mono ?_
  rintro e w2 ⟨v2, rfl, hi2, hb2⟩
  obtain ⟨A2, c2, rfl, hr2⟩ := hi2.one (n := 2) rfl (by omega) (by omega)
  have HD := Lib.hid (dm_72 w2 ((HR1.out.below hb2).mono hb2.size) hr2)
  have HB2 : Hid (Below w.heap.size w w2) := HB1.out.trans (hb2.mono HB1.out.size)
  clear hi2 hr2 hb2
  go_wp2_with (go_at_call 38; fail)
  refine HD.out.mono ?_
  rintro e w3 ⟨v3, v4, rfl, hi3, hi4, hb3⟩
  obtain ⟨A3, c3, rfl, hr3⟩ := hi3.one (n := 4) rfl (by omega) (by omega)
  obtain ⟨A4, c4, rfl, hr4⟩ := hi4.one (n := 1) rfl (by omega) (by omega)
  have HR3 := Lib.hid hr3
  have HR4 := Lib.hid hr4
  have HB3 : Hid (Below w.heap.size w w3) := HB2.out.trans (hb3.mono HB2.out.size)
  clear hi3 hi4 hr3 hr4 hb3
  go_wp2_with fail
  obtain ⟨W, HWE, x1, x2, y1, y2, hsz, hb0⟩ := boxesD w3 (.bool true) (.slice A3 1 c3) (.bool false) (.slice A4 1 c4) 24
  have HLT : Hid (w3.heap.size < W.drew.heap.size ∧ w3.heap.size + 1 < W.drew.heap.size ∧ w3.heap.size ≤ W.drew.heap.size) := by
    have e : W.drew.heap.size = w3.heap.size + 2 := hsz
    rw [e]; exact ⟨by omega, by omega, by omega⟩
  have HC4 : Hid (Below w3.heap.size w3 W.drew) := hb0.drew
  have K4 : Hid (W.drew.cell? ⟨w3.heap.size, 0, none⟩ = some (.bool true) ∧ W.drew.cell? ⟨w3.heap.size, 1, none⟩ = some (.slice A3 1 c3) ∧ W.drew.cell? ⟨w3.heap.size + 1, 0, none⟩ = some (.bool false) ∧ W.drew.cell? ⟨w3.heap.size + 1, 1, none⟩ = some (.slice A4 1 c4)) := ⟨x1, x2, y1, y2⟩
  clear x1 x2 y1 y2 hsz hb0
  subst HWE
  go_region_held3 (fun w' => w'.cell? ⟨w3.heap.size, 0, none⟩ = some (.bool true) ∧ w'.cell? ⟨w3.heap.size, 1, none⟩ = some (.slice A3 1 c3) ∧ w'.cell? ⟨w3.heap.size + 1, 0, none⟩ = some (.bool false) ∧ w'.cell? ⟨w3.heap.size + 1, 1, none⟩ = some (.slice A4 1 c4))
    (first | exact K4.out | exact K5.out | exact K6.out | exact K7.out | exact K8.out | exact K9.out | fail)
    (first
    | (go_at_call 19; ((with_reducible refine (rof_any (n := -4) _ (by omega) (by omega)).mono ?_); rintro e w5 ⟨v5, rfl, hi5, hb5⟩; obtain ⟨A5, c5, hv5, hr5⟩ := hi5.one (n := 4) rfl (by omega) (by omega); subst hv5; have K5 := Lib.hid (keep4 hb5 HLT.out.1 HLT.out.2.1 K4.out); have HC5 : Hid (Below w3.heap.size w3 w5) := HC4.out.trans (hb5.mono HLT.out.2.2); have HS5 : Hid (w3.heap.size + 2 ≤ w5.heap.size) := Nat.le_trans HLT.out.2.1 hb5.size; have HE5 := Lib.hid (same_true (n := true) ((HR3.out.below HC5.out).mono HC5.out.size) hr5 (Nat.le_refl _)); clear hi5 hr5 hb5))
    | (go_at_call 18; ((with_reducible refine (HE5.out).mono ?_); rintro e w6 ⟨rfl, hb6⟩; have K6 := Lib.hid (keep4 hb6 (Nat.lt_of_lt_of_le (by omega) HS5.out) (Nat.lt_of_lt_of_le (by omega) HS5.out) K5.out); have HC6 : Hid (Below w3.heap.size w3 w6) := HC5.out.trans (hb6.mono HC5.out.size); have HS6 : Hid (w3.heap.size + 2 ≤ w6.heap.size) := Nat.le_trans HS5.out hb6.size; clear hb6))
    | (go_at_call 19; ((with_reducible refine (rof_any (n := 1) _ (by omega) (by omega)).mono ?_); rintro e w7 ⟨v7, rfl, hi7, hb7⟩; obtain ⟨A7, c7, hv7, hr7⟩ := hi7.one (n := 1) rfl (by omega) (by omega); subst hv7; have K7 := Lib.hid (keep4 hb7 (Nat.lt_of_lt_of_le (by omega) HS6.out) (Nat.lt_of_lt_of_le (by omega) HS6.out) K6.out); have HC7 : Hid (Below w3.heap.size w3 w7) := HC6.out.trans (hb7.mono HC6.out.size); have HS7 : Hid (w3.heap.size + 2 ≤ w7.heap.size) := Nat.le_trans HS6.out hb7.size; have HE7 := Lib.hid (same_true (n := false) ((HR4.out.below HC7.out).mono HC7.out.size) hr7 (Nat.le_refl _)); clear hi7 hr7 hb7))
    | (go_at_call 18; ((with_reducible refine (HE7.out).mono ?_); rintro e w8 ⟨rfl, hb8⟩; have K8 := Lib.hid (keep4 hb8 (Nat.lt_of_lt_of_le (by omega) HS7.out) (Nat.lt_of_lt_of_le (by omega) HS7.out) K7.out); have HC8 : Hid (Below w3.heap.size w3 w8) := HC7.out.trans (hb8.mono HC7.out.size); have HS8 : Hid (w3.heap.size + 2 ≤ w8.heap.size) := Nat.le_trans HS7.out hb8.size; have HE8 := Lib.hid (format_neg4 w8 ((HR3.out.below HC8.out).mono HC8.out.size) (Nat.le_refl _)); clear hb8))
    | (go_at_call 50; ((with_reducible refine (HE8.out).mono ?_); rintro e w9 ⟨rfl, hb9⟩; have K9 := Lib.hid (keep4 hb9 (Nat.lt_of_lt_of_le (by omega) HS8.out) (Nat.lt_of_lt_of_le (by omega) HS8.out) K8.out); have HC9 : Hid (Below w3.heap.size w3 w9) := HC8.out.trans (hb9.mono HC8.out.size); clear hb9))
    | fail)
  go_wp2
  go_ret
  exact ⟨rfl, HB3.out.trans (HC9.out.mono HB3.out.size)⟩
end Go.Proofs.YtbijjiadokgmoaaDoor
