/- BigintConverts. -/
import Derived.Test.YtbffdcpajbihgaaDoorRSmall
import Derived.Test.YtbffdcpajbihgaaDoorBitsI
import Derived.Test.YtbffdcpajbihgaaDoorRingM
import Derived.Deep.RegionHeld3
namespace Go.Proofs.YtbffdcpajbihgaaDoor
open Go.RowKit

set_option maxHeartbeats 1600000 in
set_option maxRecDepth 1000000 in
theorem long1_no {g l1 c1 : Nat} {A1 : Option Addr} (w : World) (h1 : w.cell? ⟨g, 1, none⟩ = some (.slice A1 l1 c1)) (b1 : l1 ≤ 40) :
    Calls Tryd.prog 14 #[.slice (some ⟨g, 0, none⟩) 1 1] w fun e w' => e = .returned (.bool false) ∧ w = w' := by
  have k1 : decide ((40 : Int) < (l1 : Int)) = false := decide_eq_false (by omega)
  go_enter Tryd.func14, Tryd.ntmps14
  go_wp2
  refine wp_loop_rounds 2 ?_
  rw [rounds_succ]
  go_wp2
  rw [rounds_succ]
  go_wp2
  go_ret
  exact ⟨rfl, rfl⟩
set_option maxHeartbeats 1600000 in
set_option maxRecDepth 1000000 in
theorem long1_yes {g l1 c1 : Nat} {A1 : Option Addr} (w : World) (h1 : w.cell? ⟨g, 1, none⟩ = some (.slice A1 l1 c1)) (b1 : 40 < l1) :
    Calls Tryd.prog 14 #[.slice (some ⟨g, 0, none⟩) 1 1] w fun e w' => e = .returned (.bool true) ∧ w = w' := by
  have k1 : decide ((40 : Int) < (l1 : Int)) = true := decide_eq_true (by omega)
  go_enter Tryd.func14, Tryd.ntmps14
  go_wp2
  refine wp_loop_rounds 2 ?_
  rw [rounds_succ]
  go_wp2
  go_ret
  exact ⟨rfl, rfl⟩
theorem TwoAt.reads2 {W : World} {g : Nat} {x y : Value} (h : TwoAt W g x y) : W.cell? ⟨g, 0, none⟩ = some x ∧ W.cell? ⟨g, 1, none⟩ = some y := ⟨h.reads.1, h.reads.2.1⟩

set_option maxHeartbeats 0 in
set_option maxRecDepth 1000000 in
theorem conv_long {k1 : Nat} {A1 : Option Addr} {xs : List Nat} (n : Int) (n1 : Bool) (w : World) (hl : 40 < xs.length) :
    Calls Tryd.prog 3 #[.int .i64 n, .agg #[.bool n1, .slice A1 xs.length k1]] w fun e w' => e = .returned (.bool true) ∧ Below w.heap.size w w' := by
  generalize xs.length = la at *
  have HAW := Lib.hid awake_any
  go_enter Tryd.func3, Tryd.ntmps3
  go_wp2_with (go_at_call 13; fail)
  refine (HAW.out _).mono ?_
  rintro e w1 ⟨rfl, hb1⟩
  have HS1 : Hid (Gr w w1) := ((Gr.refl w).alloc _).call hb1
  have hg1 : Gr (w.alloc (.cells #[.bool n1, .slice A1 la k1] 24)) w1 := hb1
  have HT1 : Hid (TwoAt w1 w.heap.size (.bool n1) (.slice A1 la k1)) := (TwoAt.new w _ _).gr hg1
  obtain ⟨x1, x2, _, _⟩ := HT1.out.reads
  clear hb1 hg1
  go_wp2_with (go_at_call 14; fail)
  refine (long1_yes (l1 := la) (c1 := k1) (A1 := A1) _ (by rw [cell_of_row _ _ 1 _ _ _ (heap_alloc_new w1 _)]; rfl) hl).mono ?_
  rintro e w2 ⟨rfl, hw2⟩
  have HS2 : Hid (Gr w w2) := by rw [← hw2]; exact HS1.out.alloc _
  clear hw2 x1 x2
  go_wp2
  go_ret
  exact ⟨rfl, HS2.out⟩

set_option maxHeartbeats 0 in
set_option maxRecDepth 1000000 in
theorem conv_any {B k1 : Nat} {A1 : Option Addr} {xs : List Nat} (n : Int) (n1 : Bool) (w : World) (hn1 : -9223372036854775808 ≤ n) (hn2 : n ≤ 9223372036854775807) (h1 : Rd w B A1 k1 xs) (hB : B ≤ w.heap.size) (hl : xs.length ≤ 40) :
    Calls Tryd.prog 3 #[.int .i64 n, .agg #[.bool n1, .slice A1 xs.length k1]] w fun e w' => e = .returned (.bool true) ∧ Below w.heap.size w w' := by
  have HRa := Lib.hid (Raw.mk (n := n1) h1 hl)
  have HLa : Hid ((digs (sgn n1 (val xs)).natAbs).length ≤ 40) := digs_len HRa.out.len
  have HLn : Hid ((digs n.natAbs).length ≤ 2) := digs_len (k := 2) (by omega)
  clear h1
  generalize sgn n1 (val xs) = a at *
  generalize xs.length = la at *
  have HSM : Hid (∀ (W : World) (v : Value), Raw W W.heap.size v n 2 → Calls Tryd.prog 15 #[v] W fun e w' => e = .returned (.tuple #[.int .i64 n, .bool true]) ∧ Below W.heap.size W w') := fun W v h => by
    have := small_raw h (Nat.le_refl _) (by omega)
    obtain ⟨e1, e2⟩ := small_yes (a := n) ⟨hn1, hn2⟩
    unfold SmallRet at this
    rwa [e1, e2] at this
  have HOF := Lib.hid (fun W : World => of_any (n := n) W hn1 hn2)
  have HAW := Lib.hid awake_any
  go_enter Tryd.func3, Tryd.ntmps3
  go_wp2_with (go_at_call 13; fail)
  refine (HAW.out _).mono ?_
  rintro e w1 ⟨rfl, hb1⟩
  have HS1 : Hid (Gr w w1) := ((Gr.refl w).alloc _).call hb1
  have hg1 : Gr (w.alloc (.cells #[.bool n1, .slice A1 la k1] 24)) w1 := hb1
  have HT1 : Hid (TwoAt w1 w.heap.size (.bool n1) (.slice A1 la k1)) := (TwoAt.new w _ _).gr hg1
  obtain ⟨x1, x2, _, _⟩ := HT1.out.reads
  clear hb1 hg1
  go_wp2_with (go_at_call 14; fail)
  refine (long1_no (l1 := la) (c1 := k1) (A1 := A1) _ (by rw [cell_of_row _ _ 1 _ _ _ (heap_alloc_new w1 _)]; rfl) hl).mono ?_
  rintro e w2 ⟨rfl, hw2⟩
  have HS2 : Hid (Gr w w2) := by rw [← hw2]; exact HS1.out.alloc _
  have HT2 : Hid (TwoAt w2 w.heap.size (.bool n1) (.slice A1 la k1)) := by rw [← hw2]; exact HT1.out.gr ((Gr.refl _).alloc _)
  clear hw2 x1 x2
  go_wp2_with (go_at_call 16; fail)
  refine (HOF.out _).mono ?_
  rintro e w3 ⟨v3, rfl, hi3, hb3⟩
  have HR3 := Lib.hid (hi3.raw HLn.out)
  have HS3 := Lib.hid (HS2.out.call hb3)
  have hg3 : Gr w2 w3 := hb3
  have HT3 := Lib.hid (HT2.out.gr hg3)
  obtain ⟨A3, c3, rfl, _, _⟩ := hi3
  clear hb3 hg3
  go_wp2_with (go_at_call 15; fail)
  refine (HSM.out _ _ HR3.out).mono ?_
  rintro e w4 ⟨rfl, hb4⟩
  have HS4 := Lib.hid (HS3.out.call hb4)
  have hg4 : Gr w3 w4 := hb4
  have HT4 := Lib.hid (HT3.out.gr hg4)
  clear hb4 hg4
  obtain ⟨x1, x2, _, _⟩ := HT4.out.reads
  go_wp2_with (go_at_call 15; fail)
  refine (small_raw (HRa.out.gr HS4.out hB) (Nat.le_refl _) (by omega)).mono ?_
  rintro e w5 ⟨rfl, hb5⟩
  have HS4a := Lib.hid (HS4.out.call hb5)
  have hg5 : Gr w4 w5 := hb5
  have HT4a := Lib.hid (HT4.out.gr hg5)
  clear hb5 hg5 x1 x2
  obtain ⟨x1, x2, _, _⟩ := HT4a.out.reads
  go_wp2_with (go_at_call 17; fail)
  refine (rsmall_raw (HRa.out.gr HS4a.out hB) (Nat.le_refl _) (by omega)).mono ?_
  rintro e we ⟨rfl, hb6⟩
  have HS5 := Lib.hid (HS4a.out.call hb6)
  have hg6 : Gr w5 we := hb6
  have HT5 := Lib.hid (HT4a.out.gr hg6)
  clear hb6 hg6 x1 x2
  obtain ⟨x1, x2, _, _⟩ := HT5.out.reads
  go_wp2_with fail
  have qS0 : Hid (Gr w we.drew) := HS5.out.drew
  have qT0 : Hid (TwoAt we.drew w.heap.size (.bool n1) (.slice A1 la k1)) := HT5.out
  go_region_held3 (fun w' => w'.cell? ⟨w.heap.size, 0, none⟩ = some (.bool n1) ∧ w'.cell? ⟨w.heap.size, 1, none⟩ = some (.slice A1 la k1))
    (with_reducible first | exact (TwoAt.reads2 qT0.out) | exact (TwoAt.reads2 qT1.out) | exact (TwoAt.reads2 qT2.out) | exact (TwoAt.reads2 qT3.out) | exact (TwoAt.reads2 qT4.out) | exact (TwoAt.reads2 qT5.out) | exact (TwoAt.reads2 qT6.out) | exact (TwoAt.reads2 qT7.out) | exact (TwoAt.reads2 qT8.out) | exact (TwoAt.reads2 qT9.out) | exact (TwoAt.reads2 qT10.out) | fail)
    (first
      | (go_at_call 16; ((with_reducible refine (of_any (n := n) _ hn1 hn2).mono ?_); rintro e f1 ⟨x1, rfl, hi1, hb1⟩; have qI1 := Lib.hid hi1; obtain ⟨A1', c1', hv, _, _⟩ := hi1; subst hv; have hg1 : Gr _ _ := hb1; have qS1 := Lib.hid (qS0.out.call hb1); have qT1 := Lib.hid (qT0.out.gr hg1); have qG1_1 : Hid (Gr f1 f1) := Gr.refl _; clear hb1 hg1))
      | (go_at_call 19; ((with_reducible refine (rof_any (n := n) _ hn1 hn2).mono ?_); rintro e f2 ⟨x2, rfl, hi2, hb2⟩; have qI2 := Lib.hid hi2; obtain ⟨A2', c2', hv, _, _⟩ := hi2; subst hv; have hg2 : Gr _ _ := hb2; have qS2 := Lib.hid (qS1.out.call hb2); have qT2 := Lib.hid (qT1.out.gr hg2); have qG1_2 := Lib.hid (qG1_1.out.call hb2); have qG2_2 : Hid (Gr f2 f2) := Gr.refl _; clear hb2 hg2))
      | (go_at_call 18; ((with_reducible refine (same_yes (qI1.out.keepG qG1_2.out) (qI2.out.keepG qG2_2.out) rfl HLn.out).mono ?_); rintro e f3 ⟨rfl, hb3⟩; have hg3 : Gr _ _ := hb3; have qS3 := Lib.hid (qS2.out.call hb3); have qT3 := Lib.hid (qT2.out.gr hg3); have qG1_3 := Lib.hid (qG1_2.out.call hb3); have qG2_3 := Lib.hid (qG2_2.out.call hb3); clear hb3 hg3))
      | (go_at_call 20; ((with_reducible refine (normal_raw (HRa.out.gr qS3.out hB) (Nat.le_refl _) (by omega)).mono ?_); rintro e f4 ⟨x4, rfl, hi4, hb4⟩; have qI4 := Lib.hid hi4; obtain ⟨A4', c4', hv, _, _⟩ := hi4; subst hv; have hg4 : Gr _ _ := hb4; have qS4 := Lib.hid (qS3.out.call hb4); have qT4 := Lib.hid (qT3.out.gr hg4); have qG1_4 := Lib.hid (qG1_3.out.call hb4); have qG2_4 := Lib.hid (qG2_3.out.call hb4); have qG4_4 : Hid (Gr f4 f4) := Gr.refl _; clear hb4 hg4))
      | (go_at_call 21; ((with_reducible refine (rnorm_raw (HRa.out.gr qS4.out hB) (Nat.le_refl _) (by omega)).mono ?_); rintro e f5 ⟨x5, rfl, hi5, hb5⟩; have qI5 := Lib.hid hi5; obtain ⟨A5', c5', hv, _, _⟩ := hi5; subst hv; have hg5 : Gr _ _ := hb5; have qS5 := Lib.hid (qS4.out.call hb5); have qT5 := Lib.hid (qT4.out.gr hg5); have qG1_5 := Lib.hid (qG1_4.out.call hb5); have qG2_5 := Lib.hid (qG2_4.out.call hb5); have qG4_5 := Lib.hid (qG4_4.out.call hb5); have qG5_5 : Hid (Gr f5 f5) := Gr.refl _; clear hb5 hg5))
      | (go_at_call 18; ((with_reducible refine (same_yes (qI4.out.keepG qG4_5.out) (qI5.out.keepG qG5_5.out) rfl HLa.out).mono ?_); rintro e f6 ⟨rfl, hb6⟩; have hg6 : Gr _ _ := hb6; have qS6 := Lib.hid (qS5.out.call hb6); have qT6 := Lib.hid (qT5.out.gr hg6); have qG1_6 := Lib.hid (qG1_5.out.call hb6); have qG2_6 := Lib.hid (qG2_5.out.call hb6); have qG4_6 := Lib.hid (qG4_5.out.call hb6); have qG5_6 := Lib.hid (qG5_5.out.call hb6); clear hb6 hg6))
      | (go_at_call 22; ((with_reducible refine (sign_raw (HRa.out.gr qS6.out hB) (Nat.le_refl _) (by omega)).mono ?_); rintro e f7 ⟨rfl, hb7⟩; have hg7 : Gr _ _ := hb7; have qS7 := Lib.hid (qS6.out.call hb7); have qT7 := Lib.hid (qT6.out.gr hg7); have qG1_7 := Lib.hid (qG1_6.out.call hb7); have qG2_7 := Lib.hid (qG2_6.out.call hb7); have qG4_7 := Lib.hid (qG4_6.out.call hb7); have qG5_7 := Lib.hid (qG5_6.out.call hb7); clear hb7 hg7))
      | (go_at_call 23; ((with_reducible refine (rsign_raw (HRa.out.gr qS7.out hB) (Nat.le_refl _) (by omega)).mono ?_); rintro e f8 ⟨rfl, hb8⟩; have hg8 : Gr _ _ := hb8; have qS8 := Lib.hid (qS7.out.call hb8); have qT8 := Lib.hid (qT7.out.gr hg8); have qG1_8 := Lib.hid (qG1_7.out.call hb8); have qG2_8 := Lib.hid (qG2_7.out.call hb8); have qG4_8 := Lib.hid (qG4_7.out.call hb8); have qG5_8 := Lib.hid (qG5_7.out.call hb8); clear hb8 hg8))
      | (go_at_call 24; ((with_reducible refine (bits_raw (HRa.out.gr qS8.out hB) (Nat.le_refl _) (by omega)).mono ?_); rintro e f9 ⟨rfl, hb9⟩; have hg9 : Gr _ _ := hb9; have qS9 := Lib.hid (qS8.out.call hb9); have qT9 := Lib.hid (qT8.out.gr hg9); have qG1_9 := Lib.hid (qG1_8.out.call hb9); have qG2_9 := Lib.hid (qG2_8.out.call hb9); have qG4_9 := Lib.hid (qG4_8.out.call hb9); have qG5_9 := Lib.hid (qG5_8.out.call hb9); clear hb9 hg9))
      | (go_at_call 25; ((with_reducible refine (rbits_raw (HRa.out.gr qS9.out hB) (Nat.le_refl _) (by omega)).mono ?_); rintro e f10 ⟨rfl, hb10⟩; have hg10 : Gr _ _ := hb10; have qS10 := Lib.hid (qS9.out.call hb10); have qT10 := Lib.hid (qT9.out.gr hg10); have qG1_10 := Lib.hid (qG1_9.out.call hb10); have qG2_10 := Lib.hid (qG2_9.out.call hb10); have qG4_10 := Lib.hid (qG4_9.out.call hb10); have qG5_10 := Lib.hid (qG5_9.out.call hb10); clear hb10 hg10))
      | fail)
  go_wp2
  go_ret
  exact ⟨rfl, qS10.out⟩
end Go.Proofs.YtbffdcpajbihgaaDoor
