/- BigintOperations. -/
import Derived.Test.YtbijjiadokgmoaaDoorRSubI
import Derived.Test.YtbijjiadokgmoaaDoorRingM
namespace Go.Proofs.YtbijjiadokgmoaaDoor
open Go.RowKit

/-- Two boxes that came first. -/
structure RS2 (w W : World) (x1 y1 x2 y2 : Value) : Prop where
  gr : Gr w W
  one : TwoAt W w.heap.size x1 y1
  two : TwoAt W (w.heap.size + 1) x2 y2
section
variable {w W W' : World} {x1 y1 x2 y2 : Value}
theorem RS2.next (h : RS2 w W x1 y1 x2 y2) (hg : Gr W W') : RS2 w W' x1 y1 x2 y2 := ⟨h.gr.trans hg, h.one.gr hg, h.two.gr hg⟩
theorem RS2.cells (h : RS2 w W x1 y1 x2 y2) : W.cell? ⟨w.heap.size, 0, none⟩ = some x1 ∧ W.cell? ⟨w.heap.size, 1, none⟩ = some y1 ∧ W.cell? ⟨w.heap.size + 1, 0, none⟩ = some x2 ∧ W.cell? ⟨w.heap.size + 1, 1, none⟩ = some y2 := by
  obtain ⟨a1, a2, _, _⟩ := two_of_block h.one
  obtain ⟨b1, b2, _, _⟩ := two_of_block h.two
  exact ⟨a1, a2, b1, b2⟩
theorem rs2_boxes (w : World) (a1 b1 a2 b2 : Value) : RS2 w ((w.alloc (.cells #[a1, b1] 24)).alloc (.cells #[a2, b2] 24)) a1 b1 a2 b2 := by
  refine ⟨((Gr.refl w).alloc (.cells #[a1, b1] 24)).alloc (.cells #[a2, b2] 24), ?_, ?_⟩
  · exact (TwoAt.new w _ _).gr ((Gr.refl _).alloc _)
  · have := TwoAt.new (w.alloc (.cells #[a1, b1] 24)) a2 b2
    rw [World.size_alloc] at this
    exact this
end
set_option maxHeartbeats 1600000 in
set_option maxRecDepth 1000000 in
theorem long2_no {g l1 l2 c1 c2 : Nat} {A1 A2 : Option Addr} (w : World) (h1 : w.cell? ⟨g, 1, none⟩ = some (.slice A1 l1 c1)) (h2 : w.cell? ⟨g, 3, none⟩ = some (.slice A2 l2 c2)) (b1 : l1 ≤ 40) (b2 : l2 ≤ 40) :
    Calls Tryd.prog 14 #[.slice (some ⟨g, 0, none⟩) 2 2] w fun e w' => e = .returned (.bool false) ∧ w = w' := by
  have k1 : decide ((40 : Int) < (l1 : Int)) = false := decide_eq_false (by omega)
  have k2 : decide ((40 : Int) < (l2 : Int)) = false := decide_eq_false (by omega)
  go_enter Tryd.func14, Tryd.ntmps14
  go_wp2
  refine wp_loop_rounds 3 ?_
  rw [rounds_succ]
  go_wp2
  rw [rounds_succ]
  go_wp2
  rw [rounds_succ]
  go_wp2
  go_ret
  exact ⟨rfl, rfl⟩
set_option maxHeartbeats 1600000 in
set_option maxRecDepth 1000000 in
theorem long2_yes {g l1 l2 c1 c2 : Nat} {A1 A2 : Option Addr} (w : World) (h1 : w.cell? ⟨g, 1, none⟩ = some (.slice A1 l1 c1)) (h2 : w.cell? ⟨g, 3, none⟩ = some (.slice A2 l2 c2)) (b : 40 < l1 ∨ 40 < l2) :
    Calls Tryd.prog 14 #[.slice (some ⟨g, 0, none⟩) 2 2] w fun e w' => e = .returned (.bool true) ∧ w = w' := by
  by_cases k1 : 40 < l1
  · have k1' : decide ((40 : Int) < (l1 : Int)) = true := decide_eq_true (by omega)
    clear b
    go_enter Tryd.func14, Tryd.ntmps14
    go_wp2
    refine wp_loop_rounds 3 ?_
    rw [rounds_succ]
    go_wp2
    go_ret
    exact ⟨rfl, rfl⟩
  · have k1' : decide ((40 : Int) < (l1 : Int)) = false := decide_eq_false (by omega)
    have k2' : decide ((40 : Int) < (l2 : Int)) = true := decide_eq_true (by omega)
    clear b k1
    go_enter Tryd.func14, Tryd.ntmps14
    go_wp2
    refine wp_loop_rounds 3 ?_
    rw [rounds_succ]
    go_wp2
    rw [rounds_succ]
    go_wp2
    go_ret
    exact ⟨rfl, rfl⟩
theorem natAbs_lt {x : Int} {k : Nat} (hx : x.natAbs < 4294967296 ^ k) : ((x.natAbs : Int)).natAbs < 4294967296 ^ k := by simpa using hx
theorem abs_sub_lt {x y : Int} {l : Nat} (hx : x.natAbs < 4294967296 ^ l) (hy : y.natAbs < 4294967296 ^ l) : (x - y).natAbs < 4294967296 ^ (l + 1) := by
  rw [Nat.pow_succ]; omega

set_option maxHeartbeats 0 in
set_option maxRecDepth 1000000 in
theorem ops_long {k1 k2 : Nat} {A1 A2 : Option Addr} {xs ys : List Nat} (n1 n2 : Bool) (w : World) (hl : 40 < xs.length ∨ 40 < ys.length) :
    Calls Tryd.prog 4 #[.agg #[.bool n1, .slice A1 xs.length k1], .agg #[.bool n2, .slice A2 ys.length k2]] w fun e w' => e = .returned (.bool true) ∧ Below w.heap.size w w' := by
  generalize xs.length = la at *
  generalize ys.length = lb at *
  have HAW := Lib.hid awake_any
  have HS0 := Lib.hid (rs2_boxes w (.bool n1) (.slice A1 la k1) (.bool n2) (.slice A2 lb k2))
  go_enter Tryd.func4, Tryd.ntmps4
  go_wp2_with (go_at_call 13; fail)
  refine (HAW.out _).mono ?_
  rintro e w1 ⟨rfl, hb1⟩
  have HS1 := Lib.hid (HS0.out.next hb1)
  obtain ⟨x1, x2, x3, x4⟩ := HS1.out.cells
  clear hb1
  go_wp2_with (go_at_call 14; fail)
  refine (long2_yes (l1 := la) (l2 := lb) (c1 := k1) (c2 := k2) (A1 := A1) (A2 := A2) _ (by rw [cell_of_row _ _ 1 _ _ _ (heap_alloc_new w1 _)]; rfl) (by rw [cell_of_row _ _ 3 _ _ _ (heap_alloc_new w1 _)]; rfl) hl).mono ?_
  rintro e w2 ⟨rfl, hw2⟩
  have HS2 : Hid (Gr w w2) := by rw [← hw2]; exact HS1.out.gr.alloc _
  clear hw2 x1 x2 x3 x4 HS1
  go_wp2
  go_ret
  exact ⟨rfl, HS2.out⟩

set_option maxHeartbeats 0 in
set_option maxRecDepth 1000000 in
theorem ops_any {B k1 k2 : Nat} {A1 A2 : Option Addr} {xs ys : List Nat} (n1 n2 : Bool) (w : World) (h1 : Rd w B A1 k1 xs) (h2 : Rd w B A2 k2 ys) (hB : B ≤ w.heap.size) (l1 : xs.length ≤ 40) (l2 : ys.length ≤ 40) :
    Calls Tryd.prog 4 #[.agg #[.bool n1, .slice A1 xs.length k1], .agg #[.bool n2, .slice A2 ys.length k2]] w fun e w' => e = .returned (.bool true) ∧ Below w.heap.size w w' := by
  have HRa := Lib.hid (Raw.mk (n := n1) h1 l1)
  have HRb := Lib.hid (Raw.mk (n := n2) h2 l2)
  clear h1 h2
  have HLn : Hid ((digs (-(sgn n1 (val xs))).natAbs).length ≤ 40) := by show _ ≤ _; rw [Int.natAbs_neg]; exact digs_len HRa.out.len
  have HLb : Hid ((digs (((sgn n1 (val xs)).natAbs : Int)).natAbs).length ≤ 40) := digs_len (natAbs_lt HRa.out.len)
  have HLs : Hid ((digs (sgn n1 (val xs) + sgn n2 (val ys)).natAbs).length ≤ 41) := digs_len (abs_add_lt HRa.out.len HRb.out.len)
  have HLd : Hid ((digs (sgn n1 (val xs) - sgn n2 (val ys)).natAbs).length ≤ 41) := digs_len (abs_sub_lt HRa.out.len HRb.out.len)
  have HLp : Hid ((digs (sgn n1 (val xs) * sgn n2 (val ys)).natAbs).length ≤ 80) := digs_len (abs_mul_lt HRa.out.len HRb.out.len)
  generalize sgn n1 (val xs) = a at *
  generalize sgn n2 (val ys) = b at *
  obtain ⟨e1, he1⟩ : ∃ e1, -a = e1 := ⟨_, rfl⟩
  obtain ⟨e2, he2⟩ : ∃ e2, (a.natAbs : Int) = e2 := ⟨_, rfl⟩
  obtain ⟨e3, he3⟩ : ∃ e3, a + b = e3 := ⟨_, rfl⟩
  obtain ⟨e4, he4⟩ : ∃ e4, a - b = e4 := ⟨_, rfl⟩
  obtain ⟨e5, he5⟩ : ∃ e5, a * b = e5 := ⟨_, rfl⟩
  rw [he1] at HLn
  rw [he2] at HLb
  rw [he3] at HLs
  rw [he4] at HLd
  rw [he5] at HLp
  have HE1 := Lib.hid he1
  have HE2 := Lib.hid he2
  have HE3 := Lib.hid he3
  have HE4 := Lib.hid he4
  have HE5 := Lib.hid he5
  clear he1 he2 he3 he4 he5
  obtain ⟨r, hr⟩ : ∃ r, cmpZ a b = r := ⟨_, rfl⟩
  have HQ := Lib.hid hr
  clear hr
  generalize xs.length = la at *
  generalize ys.length = lb at *
  have HAW := Lib.hid awake_any
  have HS0 := Lib.hid (rs2_boxes w (.bool n1) (.slice A1 la k1) (.bool n2) (.slice A2 lb k2))
  go_enter Tryd.func4, Tryd.ntmps4
  go_wp2_with (go_at_call 13; fail)
  refine (HAW.out _).mono ?_
  rintro e w1 ⟨rfl, hb1⟩
  have HS1 := Lib.hid (HS0.out.next hb1)
  obtain ⟨x1, x2, x3, x4⟩ := HS1.out.cells
  clear hb1
  go_wp2_with (go_at_call 14; fail)
  refine (long2_no (l1 := la) (l2 := lb) (c1 := k1) (c2 := k2) (A1 := A1) (A2 := A2) _ (by rw [cell_of_row _ _ 1 _ _ _ (heap_alloc_new w1 _)]; rfl) (by rw [cell_of_row _ _ 3 _ _ _ (heap_alloc_new w1 _)]; rfl) l1 l2).mono ?_
  rintro e w2 ⟨rfl, hw2⟩
  have HS2 : Hid (RS2 w w2 (.bool n1) (.slice A1 la k1) (.bool n2) (.slice A2 lb k2)) := by
    rw [← hw2]; exact HS1.out.next ((Gr.refl _).alloc _)
  clear hw2 x1 x2 x3 x4 HS1 HS0
  obtain ⟨x1, x2, x3, x4⟩ := HS2.out.cells
  go_wp2_with fail
  have S0 : Hid (RS2 w w2.drew (.bool n1) (.slice A1 la k1) (.bool n2) (.slice A2 lb k2)) := HS2.out.next (Gr.refl _).drew
  go_region_held3 (fun w' => w'.cell? ⟨w.heap.size, 0, none⟩ = some (.bool n1) ∧ w'.cell? ⟨w.heap.size, 1, none⟩ = some (.slice A1 la k1) ∧ w'.cell? ⟨w.heap.size + 1, 0, none⟩ = some (.bool n2) ∧ w'.cell? ⟨w.heap.size + 1, 1, none⟩ = some (.slice A2 lb k2))
    (with_reducible first | exact S17.out.cells | exact S16.out.cells | exact S15.out.cells | exact S14.out.cells | exact S13.out.cells | exact S12.out.cells | exact S11.out.cells | exact S10.out.cells | exact S9.out.cells | exact S8.out.cells | exact S7.out.cells | exact S6.out.cells | exact S5.out.cells | exact S4.out.cells | exact S3.out.cells | exact S2.out.cells | exact S1.out.cells | exact S0.out.cells | fail)
    (first
      | (go_at_call 26; ((with_reducible refine (ret_is HE1.out (neg_raw (HRa.out.gr S0.out.gr hB) (Nat.le_refl _) (by omega))).mono ?_); rintro e v1 ⟨x1, rfl, hi1, hb1⟩; have I1 := Lib.hid hi1; obtain ⟨A1', c1', hv, _, _⟩ := hi1; subst hv; have hg1 : Gr _ _ := hb1; have S1 := Lib.hid (S0.out.next hg1); have G1_1 : Hid (Gr v1 v1) := Gr.refl _; clear hb1 hg1 S0))
      | (go_at_call 27; ((with_reducible refine (ret_is HE1.out (rneg_raw (HRa.out.gr S1.out.gr hB) (Nat.le_refl _) (by omega))).mono ?_); rintro e v2 ⟨x2, rfl, hi2, hb2⟩; have I2 := Lib.hid hi2; obtain ⟨A2', c2', hv, _, _⟩ := hi2; subst hv; have hg2 : Gr _ _ := hb2; have S2 := Lib.hid (S1.out.next hg2); have G1_2 := Lib.hid (G1_1.out.call hb2); have G2_2 : Hid (Gr v2 v2) := Gr.refl _; clear hb2 hg2 G1_1 S1))
      | (go_at_call 18; ((with_reducible refine (same_yes (I1.out.keepG G1_2.out) (I2.out.keepG G2_2.out) rfl HLn.out).mono ?_); rintro e v3 ⟨rfl, hb3⟩; have hg3 : Gr _ _ := hb3; have S3 := Lib.hid (S2.out.next hg3); clear hb3 hg3 I1 G1_2 I2 G2_2 S2))
      | (go_at_call 28; ((with_reducible refine (ret_is HE2.out (abs_raw (HRa.out.gr S3.out.gr hB) (Nat.le_refl _) (by omega))).mono ?_); rintro e v4 ⟨x4, rfl, hi4, hb4⟩; have I4 := Lib.hid hi4; obtain ⟨A4', c4', hv, _, _⟩ := hi4; subst hv; have hg4 : Gr _ _ := hb4; have S4 := Lib.hid (S3.out.next hg4); have G4_4 : Hid (Gr v4 v4) := Gr.refl _; clear hb4 hg4 S3))
      | (go_at_call 29; ((with_reducible refine (ret_is HE2.out (rabs_raw (HRa.out.gr S4.out.gr hB) (Nat.le_refl _) (by omega))).mono ?_); rintro e v5 ⟨x5, rfl, hi5, hb5⟩; have I5 := Lib.hid hi5; obtain ⟨A5', c5', hv, _, _⟩ := hi5; subst hv; have hg5 : Gr _ _ := hb5; have S5 := Lib.hid (S4.out.next hg5); have G4_5 := Lib.hid (G4_4.out.call hb5); have G5_5 : Hid (Gr v5 v5) := Gr.refl _; clear hb5 hg5 G4_4 S4))
      | (go_at_call 18; ((with_reducible refine (same_yes (I4.out.keepG G4_5.out) (I5.out.keepG G5_5.out) rfl HLb.out).mono ?_); rintro e v6 ⟨rfl, hb6⟩; have hg6 : Gr _ _ := hb6; have S6 := Lib.hid (S5.out.next hg6); clear hb6 hg6 I4 G4_5 I5 G5_5 S5))
      | (go_at_call 30; ((with_reducible refine (ret_is HE3.out (add_raw (HRa.out.gr S6.out.gr hB) (HRb.out.gr S6.out.gr hB) (Nat.le_refl _) (by omega) (by omega))).mono ?_); rintro e v7 ⟨x7, rfl, hi7, hb7⟩; have I7 := Lib.hid hi7; obtain ⟨A7', c7', hv, _, _⟩ := hi7; subst hv; have hg7 : Gr _ _ := hb7; have S7 := Lib.hid (S6.out.next hg7); have G7_7 : Hid (Gr v7 v7) := Gr.refl _; clear hb7 hg7 S6))
      | (go_at_call 31; ((with_reducible refine (ret_is HE3.out (radd_raw (HRa.out.gr S7.out.gr hB) (HRb.out.gr S7.out.gr hB) (Nat.le_refl _) (by omega) (by omega))).mono ?_); rintro e v8 ⟨x8, rfl, hi8, hb8⟩; have I8 := Lib.hid hi8; obtain ⟨A8', c8', hv, _, _⟩ := hi8; subst hv; have hg8 : Gr _ _ := hb8; have S8 := Lib.hid (S7.out.next hg8); have G7_8 := Lib.hid (G7_7.out.call hb8); have G8_8 : Hid (Gr v8 v8) := Gr.refl _; clear hb8 hg8 G7_7 S7))
      | (go_at_call 18; ((with_reducible refine (same_yes (I7.out.keepG G7_8.out) (I8.out.keepG G8_8.out) rfl HLs.out).mono ?_); rintro e v9 ⟨rfl, hb9⟩; have hg9 : Gr _ _ := hb9; have S9 := Lib.hid (S8.out.next hg9); clear hb9 hg9 I7 G7_8 I8 G8_8 S8))
      | (go_at_call 32; ((with_reducible refine (ret_is HE4.out (sub_raw (HRa.out.gr S9.out.gr hB) (HRb.out.gr S9.out.gr hB) (Nat.le_refl _) (by omega) (by omega))).mono ?_); rintro e v10 ⟨x10, rfl, hi10, hb10⟩; have I10 := Lib.hid hi10; obtain ⟨A10', c10', hv, _, _⟩ := hi10; subst hv; have hg10 : Gr _ _ := hb10; have S10 := Lib.hid (S9.out.next hg10); have G10_10 : Hid (Gr v10 v10) := Gr.refl _; clear hb10 hg10 S9))
      | (go_at_call 33; ((with_reducible refine (ret_is HE4.out (rsub_raw (HRa.out.gr S10.out.gr hB) (HRb.out.gr S10.out.gr hB) (Nat.le_refl _) (by omega) (by omega))).mono ?_); rintro e v11 ⟨x11, rfl, hi11, hb11⟩; have I11 := Lib.hid hi11; obtain ⟨A11', c11', hv, _, _⟩ := hi11; subst hv; have hg11 : Gr _ _ := hb11; have S11 := Lib.hid (S10.out.next hg11); have G10_11 := Lib.hid (G10_10.out.call hb11); have G11_11 : Hid (Gr v11 v11) := Gr.refl _; clear hb11 hg11 G10_10 S10))
      | (go_at_call 18; ((with_reducible refine (same_yes (I10.out.keepG G10_11.out) (I11.out.keepG G11_11.out) rfl HLd.out).mono ?_); rintro e v12 ⟨rfl, hb12⟩; have hg12 : Gr _ _ := hb12; have S12 := Lib.hid (S11.out.next hg12); clear hb12 hg12 I10 G10_11 I11 G11_11 S11))
      | (go_at_call 34; ((with_reducible refine (ret_is HE5.out (mul_raw (HRa.out.gr S12.out.gr hB) (HRb.out.gr S12.out.gr hB) (Nat.le_refl _) (by omega) (by omega) (by omega))).mono ?_); rintro e v13 ⟨x13, rfl, hi13, hb13⟩; have I13 := Lib.hid hi13; obtain ⟨A13', c13', hv, _, _⟩ := hi13; subst hv; have hg13 : Gr _ _ := hb13; have S13 := Lib.hid (S12.out.next hg13); have G13_13 : Hid (Gr v13 v13) := Gr.refl _; clear hb13 hg13 S12))
      | (go_at_call 35; ((with_reducible refine (ret_is HE5.out (rmul_raw (HRa.out.gr S13.out.gr hB) (HRb.out.gr S13.out.gr hB) (Nat.le_refl _) (by omega) (by omega))).mono ?_); rintro e v14 ⟨x14, rfl, hi14, hb14⟩; have I14 := Lib.hid hi14; obtain ⟨A14', c14', hv, _, _⟩ := hi14; subst hv; have hg14 : Gr _ _ := hb14; have S14 := Lib.hid (S13.out.next hg14); have G13_14 := Lib.hid (G13_13.out.call hb14); have G14_14 : Hid (Gr v14 v14) := Gr.refl _; clear hb14 hg14 G13_13 S13))
      | (go_at_call 18; ((with_reducible refine (same_yes (I13.out.keepG G13_14.out) (I14.out.keepG G14_14.out) rfl HLp.out).mono ?_); rintro e v15 ⟨rfl, hb15⟩; have hg15 : Gr _ _ := hb15; have S15 := Lib.hid (S14.out.next hg15); clear hb15 hg15 I13 G13_14 I14 G14_14 S14))
      | (go_at_call 36; ((with_reducible refine (cmp_is HQ.out (HRa.out.gr S15.out.gr hB) (HRb.out.gr S15.out.gr hB)).mono ?_); rintro e v16 ⟨rfl, hb16⟩; have hg16 : Gr _ _ := hb16; have S16 := Lib.hid (S15.out.next hg16); clear hb16 hg16 S15))
      | (go_at_call 37; ((with_reducible refine (rcmp_is HQ.out (HRa.out.gr S16.out.gr hB) (HRb.out.gr S16.out.gr hB) (Nat.le_refl _) (by omega) (by omega)).mono ?_); rintro e v17 ⟨rfl, hb17⟩; have hg17 : Gr _ _ := hb17; have S17 := Lib.hid (S16.out.next hg17); clear hb17 hg17 S16))
      | fail)
  go_wp2
  go_ret
  exact ⟨rfl, S17.out.gr⟩
theorem bigintOperations_walk (n1 n2 : Bool) {A1 A2 : Option Addr} {k1 k2 : Nat} {xs ys : List Nat} (w : World) (h1 : Rd w w.heap.size A1 k1 xs) (h2 : Rd w w.heap.size A2 k2 ys) :
    Calls Tryd.prog 4 #[.agg #[.bool n1, .slice A1 xs.length k1], .agg #[.bool n2, .slice A2 ys.length k2]] w fun e w' => e = .returned (.bool true) ∧ Below w.heap.size w w' := by
  by_cases h : xs.length ≤ 40 ∧ ys.length ≤ 40
  · exact ops_any n1 n2 w h1 h2 (Nat.le_refl _) h.1 h.2
  · exact ops_long n1 n2 w (by omega)
end Go.Proofs.YtbijjiadokgmoaaDoor
