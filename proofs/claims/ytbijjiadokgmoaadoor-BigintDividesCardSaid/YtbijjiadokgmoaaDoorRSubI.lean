/- Contract of the reference's Add. Contracts of the reference's Sub and Cmp; the reference's operations in the words of integers. -/
import Derived.Test.YtbijjiadokgmoaaDoorRMinus
import Derived.Test.YtbijjiadokgmoaaDoorRingM
import Derived.Test.YtbijjiadokgmoaaDoorFin2
import Derived.Test.YtbijjiadokgmoaaDoorRMul
import Derived.Test.YtbijjiadokgmoaaDoorRSmall
import Derived.Deep.RegionHeld3
import Derived.Deep.DeepCutAuto
namespace Go.Proofs.YtbijjiadokgmoaaDoor
open Go.RowKit

theorem IntIn.rdOf {w0 V : World} {A : Option Addr} {c : Nat} {z : Int} (h : IntIn w0 V (.agg #[.bool (decide (z < 0)), .slice A (digs z.natAbs).length c]) z) : Rd V V.heap.size A c (digs z.natAbs) := (IntIv.of h).rd
theorem sg_add {a b : Int} {s : Nat} (n : Bool) (ha : decide (a < 0) = n) (hb : decide (b < 0) = n) (hs : s = a.natAbs + b.natAbs) : sgn n s = a + b := by
  subst hs; cases n <;> simp at ha hb <;> simp [sgn] <;> omega
theorem sg_lt {a b : Int} {s : Nat} (n : Bool) (ha : decide (a < 0) = (!n)) (hb : decide (b < 0) = n) (hl : a.natAbs < b.natAbs) (hs : s = b.natAbs - a.natAbs) : sgn n s = a + b := by
  subst hs; cases n <;> simp at ha hb <;> simp [sgn] <;> omega
theorem sg_ge {a b : Int} {s : Nat} (n : Bool) (ha : decide (a < 0) = n) (hb : decide (b < 0) = (!n)) (hl : ¬ a.natAbs < b.natAbs) (hs : s = a.natAbs - b.natAbs) : sgn n s = a + b := by
  subst hs; cases n <;> simp at ha hb <;> simp [sgn] <;> omega
theorem digs_mono {m n : Nat} (h : m ≤ n) : (digs m).length ≤ (digs n).length := digs_len (Nat.lt_of_le_of_lt h (lt_digs n))
set_option maxHeartbeats 0 in
set_option maxRecDepth 1000000 in
theorem radd_any {B k1 k2 : Nat} {A1 A2 : Option Addr} {xs ys : List Nat} (n1 n2 : Bool) (w : World) (h1 : Rd w B A1 k1 xs) (h2 : Rd w B A2 k2 ys) (hB : B ≤ w.heap.size) (l1 : xs.length ≤ 400000) (l2 : ys.length ≤ 400000) :
    Calls Tryd.prog 31 #[.agg #[.bool n1, .slice A1 xs.length k1], .agg #[.bool n2, .slice A2 ys.length k2]] w (IntRet w (sgn n1 (val xs) + sgn n2 (val ys))) := by
  have HRa := Lib.hid (Raw.mk (n := n1) h1 l1)
  have HRb := Lib.hid (Raw.mk (n := n2) h2 l2)
  have HLa := Lib.hid (digs_len HRa.out.len)
  have HLb := Lib.hid (digs_len HRb.out.len)
  clear h1 h2
  generalize sgn n1 (val xs) = a at *
  generalize sgn n2 (val ys) = b at *
  generalize xs.length = la at *
  generalize ys.length = lb at *
  have HS0 : Hid (RSt w (((w.alloc (.cells #[.bool n1, .slice A1 la k1] 24)).alloc (.cells #[.bool n2, .slice A2 lb k2] 24)).alloc (.cells #[.bool false, .slice none 0 0] 24)) (.bool n1) (.slice A1 la k1) (.bool n2) (.slice A2 lb k2) (.bool false) (.slice none 0 0)) := by
    refine ⟨((Gr.refl w).alloc (.cells #[.bool n1, .slice A1 la k1] 24)).alloc (.cells #[.bool n2, .slice A2 lb k2] 24) |>.alloc (.cells #[.bool false, .slice none 0 0] 24), ?_, ?_, ?_⟩
    · exact ((TwoAt.new w _ _).gr ((Gr.refl _).alloc _)).gr ((Gr.refl _).alloc _)
    · have := TwoAt.new (w.alloc (.cells #[.bool n1, .slice A1 la k1] 24)) (.bool n2) (.slice A2 lb k2)
      rw [World.size_alloc] at this
      exact this.gr ((Gr.refl _).alloc _)
    · have := TwoAt.new ((w.alloc (.cells #[.bool n1, .slice A1 la k1] 24)).alloc (.cells #[.bool n2, .slice A2 lb k2] 24)) (.bool false) (.slice none 0 0)
      rw [World.size_alloc, World.size_alloc] at this
      exact this
  go_enter Tryd.func31, Tryd.ntmps31
  obtain ⟨wd, hwd⟩ : ∃ wd : World, wd = (((w.alloc (.cells #[.bool n1, .slice A1 la k1] 24)).alloc (.cells #[.bool n2, .slice A2 lb k2] 24)).alloc (.cells #[.bool false, .slice none 0 0] 24)) := ⟨_, rfl⟩
  have HWD := Lib.hid hwd
  rw [← hwd] at HS0
  clear hwd
  have HS := HS0
  obtain ⟨x1, x2, x3, x4, x5, x6⟩ := HS.out.cells
  go_upto_region 1 with fail
  rw [← HWD.out]
  go_cut [5, 6] (fun s5 s6 wx => ∃ g5 g6 : Nat, s5 = .pointer (some ⟨g5, 0, none⟩) ∧ s6 = .pointer (some ⟨g6, 0, none⟩) ∧ Hid (RSt w wx (.bool n1) (.slice A1 la k1) (.bool n2) (.slice A2 lb k2) (.bool false) (.slice none 0 0)) ∧ Hid (IntAt w wx g5 a) ∧ Hid (IntAt w wx g6 b))
  case first =>
    have S0 : Hid (RSt w wd.drew (.bool n1) (.slice A1 la k1) (.bool n2) (.slice A2 lb k2) (.bool false) (.slice none 0 0)) := HS.out.next (Gr.refl _).drew
    have G0_0 : Hid (Gr wd wd.drew) := (Gr.refl _).drew
    have S0a : Hid (RSt w (wd.alloc (.cells #[.bool false, .slice none 0 0] 24)).drew (.bool n1) (.slice A1 la k1) (.bool n2) (.slice A2 lb k2) (.bool false) (.slice none 0 0)) := HS.out.next ((Gr.refl _).alloc _).drew
    have G0_0a : Hid (Gr wd (wd.alloc (.cells #[.bool false, .slice none 0 0] 24)).drew) := ((Gr.refl _).alloc _).drew
    have S0aa : Hid (RSt w ((wd.alloc (.cells #[.bool false, .slice none 0 0] 24)).alloc (.cells #[.bool false, .slice none 0 0] 24)).drew (.bool n1) (.slice A1 la k1) (.bool n2) (.slice A2 lb k2) (.bool false) (.slice none 0 0)) := HS.out.next (((Gr.refl _).alloc _).alloc _).drew
    have G0_0aa : Hid (Gr wd ((wd.alloc (.cells #[.bool false, .slice none 0 0] 24)).alloc (.cells #[.bool false, .slice none 0 0] 24)).drew) := (((Gr.refl _).alloc _).alloc _).drew
    go_region_held3 (fun w' => w'.cell? ⟨w.heap.size, 0, none⟩ = some (.bool n1) ∧ w'.cell? ⟨w.heap.size, 1, none⟩ = some (.slice A1 la k1) ∧ w'.cell? ⟨w.heap.size + 1, 0, none⟩ = some (.bool n2) ∧ w'.cell? ⟨w.heap.size + 1, 1, none⟩ = some (.slice A2 lb k2) ∧ w'.cell? ⟨w.heap.size + 1 + 1, 0, none⟩ = some (.bool false) ∧ w'.cell? ⟨w.heap.size + 1 + 1, 1, none⟩ = some (.slice none 0 0))
      (with_reducible first | exact S0.out.cells | exact S0a.out.cells | exact S0aa.out.cells | exact S1.out.cells | exact S1a.out.cells | exact S1aa.out.cells | exact S2.out.cells | exact S2a.out.cells | exact S2aa.out.cells | ((with_reducible refine RSt.cells (RSt.set2 ?_ ?_ _ _)) <;> first | with_reducible exact S2.out | with_reducible exact S2a.out | with_reducible exact S2.out.next ((Gr.refl _).alloc _) | with_reducible exact HS.out.size | with_reducible exact S1.out.size | with_reducible exact S2.out.size | with_reducible exact Nat.le_succ_of_le HS.out.size | with_reducible exact Nat.le_succ_of_le S1.out.size | with_reducible exact Nat.le_succ_of_le S2.out.size) | ((with_reducible refine RSt.cells (RSt.set2 (RSt.set2 ?_ ?_ _ _) ?_ _ _)) <;> first | with_reducible exact S2.out | with_reducible exact S2a.out | with_reducible exact S2.out.next ((Gr.refl _).alloc _) | with_reducible exact HS.out.size | with_reducible exact S1.out.size | with_reducible exact S2.out.size | with_reducible exact Nat.le_succ_of_le HS.out.size | with_reducible exact Nat.le_succ_of_le S1.out.size | with_reducible exact Nat.le_succ_of_le S2.out.size) | exact (S2.out.next ((Gr.refl _).alloc _)).cells | exact (S2.out.next (((Gr.refl _).alloc _).alloc _)).cells | fail)
      (first
        | (go_at_call 21; ((with_reducible refine (rnorm_raw (HRa.out.gr (by with_reducible first | exact S0.out.gr | exact S0a.out.gr | exact S0aa.out.gr) hB) (Nat.le_refl _) (by omega)).mono ?_); rintro e v1 ⟨x1, rfl, hi1, hb1⟩; have I1 := Lib.hid hi1; obtain ⟨A1', c1', hv, _, _⟩ := hi1; subst hv; have V1 := (by with_reducible first | exact Lib.hid (IntIv.of_aad I1.out) | exact Lib.hid (IntIv.of_ad I1.out) | exact Lib.hid (IntIv.of_d I1.out) | fail); have hg1 : Gr _ _ := hb1; have S1 : Hid (RSt w v1 (.bool n1) (.slice A1 la k1) (.bool n2) (.slice A2 lb k2) (.bool false) (.slice none 0 0)) := (by with_reducible first | exact Lib.hid (S0.out.next hg1) | exact Lib.hid (S0a.out.next hg1) | exact Lib.hid (S0aa.out.next hg1)); have G0_1 : Hid (Gr wd v1) := (by with_reducible first | exact Lib.hid (G0_0.out.call hb1) | exact Lib.hid (G0_0a.out.call hb1) | exact Lib.hid (G0_0aa.out.call hb1)); have Q1 : Hid (wd.heap.size ≤ v1.heap.size) := (by first | exact hb1.size | exact Nat.le_trans (by simp <;> omega) hb1.size); have G1_1 : Hid (Gr v1 v1) := Gr.refl _; have S1a := Lib.hid (S1.out.next (show Gr v1 (v1.alloc (.cells #[.bool false, .slice none 0 0] 24)) from ((Gr.refl _).alloc (.cells #[.bool false, .slice none 0 0] 24)))); have G0_1a := Lib.hid (G0_1.out.alloc (.cells #[.bool false, .slice none 0 0] 24)); have G1_1a := Lib.hid (G1_1.out.alloc (.cells #[.bool false, .slice none 0 0] 24)); have S1aa := Lib.hid (S1.out.next (show Gr v1 ((v1.alloc (.cells #[.bool false, .slice none 0 0] 24)).alloc (.cells #[.bool false, .slice none 0 0] 24)) from (((Gr.refl _).alloc (.cells #[.bool false, .slice none 0 0] 24)).alloc (.cells #[.bool false, .slice none 0 0] 24)))); have G0_1aa := Lib.hid ((G0_1.out.alloc (.cells #[.bool false, .slice none 0 0] 24)).alloc (.cells #[.bool false, .slice none 0 0] 24)); have G1_1aa := Lib.hid ((G1_1.out.alloc (.cells #[.bool false, .slice none 0 0] 24)).alloc (.cells #[.bool false, .slice none 0 0] 24)); (first | (with_reducible have P1 := Lib.hid (TwoAt.keepBelowD hb1); with_reducible have T1 := Lib.hid (TwoAt.keepNew2D hb1); have N := Lib.hid (Nat.lt_succ_self wd.heap.size)) | (with_reducible have P1 := Lib.hid (TwoAt.keepNewD hb1)) | skip); clear hb1 hg1; try clear S0; try clear S0a; try clear S0aa; try clear G0_0a; try clear G0_0aa))
        | (go_at_call 21; ((with_reducible refine (rnorm_raw (HRb.out.gr (by with_reducible first | exact S1.out.gr | exact S1a.out.gr | exact S1aa.out.gr) hB) (Nat.le_refl _) (by omega)).mono ?_); rintro e v2 ⟨x2, rfl, hi2, hb2⟩; have I2 := Lib.hid hi2; obtain ⟨A2', c2', hv, _, _⟩ := hi2; subst hv; have V2 := (by with_reducible first | exact Lib.hid (IntIv.of_aa I2.out) | exact Lib.hid (IntIv.of_a I2.out) | exact Lib.hid (IntIv.of I2.out) | fail); have hg2 : Gr _ _ := hb2; have S2 : Hid (RSt w v2 (.bool n1) (.slice A1 la k1) (.bool n2) (.slice A2 lb k2) (.bool false) (.slice none 0 0)) := (by with_reducible first | exact Lib.hid (S1.out.next hg2) | exact Lib.hid (S1a.out.next hg2) | exact Lib.hid (S1aa.out.next hg2)); have G0_2 : Hid (Gr wd v2) := (by with_reducible first | exact Lib.hid (G0_1.out.call hb2) | exact Lib.hid (G0_1a.out.call hb2) | exact Lib.hid (G0_1aa.out.call hb2)); have G1_2 : Hid (Gr v1 v2) := (by with_reducible first | exact Lib.hid (G1_1.out.call hb2) | exact Lib.hid (G1_1a.out.call hb2) | exact Lib.hid (G1_1aa.out.call hb2)); have Q2 : Hid (v1.heap.size ≤ v2.heap.size) := (by first | exact hb2.size | exact Nat.le_trans (by simp <;> omega) hb2.size); have G2_2 : Hid (Gr v2 v2) := Gr.refl _; have S2a := Lib.hid (S2.out.next (show Gr v2 (v2.alloc (.cells #[.bool false, .slice none 0 0] 24)) from ((Gr.refl _).alloc (.cells #[.bool false, .slice none 0 0] 24)))); have G0_2a := Lib.hid (G0_2.out.alloc (.cells #[.bool false, .slice none 0 0] 24)); have G1_2a := Lib.hid (G1_2.out.alloc (.cells #[.bool false, .slice none 0 0] 24)); have G2_2a := Lib.hid (G2_2.out.alloc (.cells #[.bool false, .slice none 0 0] 24)); have S2aa := Lib.hid (S2.out.next (show Gr v2 ((v2.alloc (.cells #[.bool false, .slice none 0 0] 24)).alloc (.cells #[.bool false, .slice none 0 0] 24)) from (((Gr.refl _).alloc (.cells #[.bool false, .slice none 0 0] 24)).alloc (.cells #[.bool false, .slice none 0 0] 24)))); have G0_2aa := Lib.hid ((G0_2.out.alloc (.cells #[.bool false, .slice none 0 0] 24)).alloc (.cells #[.bool false, .slice none 0 0] 24)); have G1_2aa := Lib.hid ((G1_2.out.alloc (.cells #[.bool false, .slice none 0 0] 24)).alloc (.cells #[.bool false, .slice none 0 0] 24)); have G2_2aa := Lib.hid ((G2_2.out.alloc (.cells #[.bool false, .slice none 0 0] 24)).alloc (.cells #[.bool false, .slice none 0 0] 24)); (first | (with_reducible have T2 := Lib.hid (T1.out.gr hg2); with_reducible have P2 := Lib.hid (P1.out.gr hg2)) | (with_reducible have T2 := Lib.hid (TwoAt.keepNew hb2); with_reducible have P2 := Lib.hid ((P1.out.gr ((Gr.refl _).alloc _)).gr hg2); have N := Lib.hid P1.out.lt) | (with_reducible have P2 := Lib.hid (P1.out.gr hg2)) | (with_reducible have P2 := Lib.hid (TwoAt.keepBelow hb2); with_reducible have T2 := Lib.hid (TwoAt.keepNew2 hb2); have N := Lib.hid (Nat.lt_succ_self v1.heap.size)) | (with_reducible have P2 := Lib.hid (TwoAt.keepNew hb2)) | skip); (first | (have hz := P2.out.reads; obtain ⟨z1, z2, z3, z4⟩ := hz; have hz := T2.out.reads; obtain ⟨y1, y2, y3, y4⟩ := hz; have hq := fun u v => TwoAt.reads (T2.out.far (Nat.ne_of_gt N.out) u v); have zc1 := fun u v => (hq u v).1; have zc2 := fun u v => (hq u v).2.1; have zc3 := fun u v => (hq u v).2.2.1; have zc4 := fun u v => (hq u v).2.2.2; clear hq; have hq := fun u v => TwoAt.reads (P2.out.far (Nat.ne_of_lt N.out) u v); have zd1 := fun u v => (hq u v).1; have zd2 := fun u v => (hq u v).2.1; have zd3 := fun u v => (hq u v).2.2.1; have zd4 := fun u v => (hq u v).2.2.2; clear hq) | (have hz := P2.out.reads; obtain ⟨z1, z2, z3, z4⟩ := hz; have hy := fun ob => TwoAt.reads (P2.out.gr ((Gr.refl _).alloc ob)); have za1 := fun ob => (hy ob).1; have za2 := fun ob => (hy ob).2.1; have za3 := fun ob => (hy ob).2.2.1; have za4 := fun ob => (hy ob).2.2.2; clear hy; have hq := fun u v => TwoAt.reads ((TwoAt.new v2 (.bool false) (.slice none 0 0)).far (Nat.ne_of_gt P2.out.lt) u v); have zb1 := fun u v => (hq u v).1; have zb2 := fun u v => (hq u v).2.1; have zb3 := fun u v => (hq u v).2.2.1; have zb4 := fun u v => (hq u v).2.2.2; clear hq) | skip); clear hb2 hg2; try clear S1a; try clear S1aa; try clear G0_1a; try clear G0_1aa; try clear G1_1; try clear G1_1a; try clear G1_1aa))
        | fail)
    all_goals
      go_wp2_with fail
      go_meet
      have n0 := HS.out.size
      have n1 := Q1.out
      have n2 := Q2.out
      have m1 := S1.out.size
      have m2 := S2.out.size
      try have p1 := P1.out.lt
      try have p2 := P2.out.lt
      try have t1 := T1.out.lt
      try have t2 := T2.out.lt
      try have nn := N.out
      (first | ((first | with_reducible exact Both.fin (Both.both S2.out G0_2.out (V1.out.gr G1_2.out) V2.out P2.out T2.out (Nat.ne_of_lt N.out) (by omega) (by omega) (by omega) (by omega) (by omega) (by omega) (by omega) (by omega) (by omega)) | with_reducible exact Both.fin (Both.both S2.out G0_2.out (V1.out.gr G1_2.out) V2.out T2.out P2.out (Nat.ne_of_gt N.out) (by omega) (by omega) (by omega) (by omega) (by omega) (by omega) (by omega) (by omega) (by omega)) | with_reducible exact Both.fin (Both.late S2.out G0_2.out (V1.out.gr G1_2.out) V2.out P2.out (by omega) (by omega) (by omega) (by omega) (by omega) (by omega)) | with_reducible exact Both.fin (Both.early S2.out G0_2.out (V1.out.gr G1_2.out) V2.out P2.out (by omega) (by omega) (by omega) (by omega) (by omega) (by omega)) | with_reducible exact Both.fin (Both.new S2.out G0_2.out (V1.out.gr G1_2.out) V2.out (by omega) (by omega) (by omega)) | with_reducible exact Both.fin (Both.wen S2.out G0_2.out (V1.out.gr G1_2.out) V2.out (by omega) (by omega) (by omega)) | fail)))
  case rest =>
    obtain ⟨g5, g6, rfl, rfl, HS5, HI5, HI6⟩ := hcut
    clear x1 x2 x3 x4 x5 x6
    obtain ⟨x1, x2, x3, x4, x5, x6⟩ := HS5.out.cells
    obtain ⟨wq, rfl⟩ : ∃ wq : World, wq = wc := ⟨_, rfl⟩
    obtain ⟨hg5, A5, c5, hT5, hV5⟩ := HI5.out
    obtain ⟨hg6, A6, c6, hT6, hV6⟩ := HI6.out
    have R5 := Lib.hid hV5.rdOf
    have R6 := Lib.hid hV6.rdOf
    have GG : Hid (Gr wq wq) := Gr.refl _
    have hsz := HS5.out.size
    have hla := HLa.out
    have hlb := HLb.out
    have HP := Lib.hid (fun (W : World) (hg : Gr wq W) => rplus_any W (R5.out.below hg) (R6.out.below hg) hg.size (by omega) (by omega))
    have HZ := Lib.hid (fun (n : Bool) (W : World) (A : Option Addr) (c : Nat) (zs : List Nat) (hr : Rd W W.heap.size A c zs) (hs : sgn n (val zs) = a + b) (hl : zs.length ≤ 1000000) => (show Calls Tryd.prog 60 #[.bool n, .slice A zs.length c] W (IntRet W (a + b)) by rw [← hs]; exact rsigned_any n W hr (Nat.le_refl _) hl))
    have HSA : Hid (∀ (n : Bool) (s : Nat), decide (a < 0) = n → decide (b < 0) = n → s = a.natAbs + b.natAbs → sgn n s = a + b) := fun n s h1 h2 h3 => sg_add n h1 h2 h3
    have HSL : Hid (∀ (n : Bool) (s : Nat), decide (a < 0) = (!n) → decide (b < 0) = n → a.natAbs < b.natAbs → s = b.natAbs - a.natAbs → sgn n s = a + b) := fun n s h1 h2 h3 h4 => sg_lt n h1 h2 h3 h4
    have HSG : Hid (∀ (n : Bool) (s : Nat), decide (a < 0) = n → decide (b < 0) = (!n) → ¬ a.natAbs < b.natAbs → s = a.natAbs - b.natAbs → sgn n s = a + b) := fun n s h1 h2 h3 h4 => sg_ge n h1 h2 h3 h4
    have HM := Lib.hid (fun (hlt : a.natAbs < b.natAbs) (W : World) (hg : Gr wq W) => rminus_any W (R6.out.below hg) (R5.out.below hg) hg.size (by omega) (digs_mono (Nat.le_of_lt hlt)) (by rw [val_digs, val_digs]; exact Nat.le_of_lt hlt))
    have HN := Lib.hid (fun (hge : ¬ a.natAbs < b.natAbs) (W : World) (hg : Gr wq W) => rminus_any W (R5.out.below hg) (R6.out.below hg) hg.size (by omega) (digs_mono (Nat.le_of_not_lt hge)) (by rw [val_digs, val_digs]; exact Nat.le_of_not_lt hge))
    have HBL := Lib.hid (fun (W : World) (hg : Gr wq W) => rbelow_any W (R5.out.below hg) (R6.out.below hg) (by omega))
    have HEA := Lib.hid (show (digs a.natAbs).length = (digs a.natAbs).length from rfl)
    obtain ⟨na, hna⟩ : ∃ na, decide (a < 0) = na := ⟨_, rfl⟩
    obtain ⟨nb, hnb⟩ : ∃ nb, decide (b < 0) = nb := ⟨_, rfl⟩
    have T5 : Hid (TwoAt wq g5 (.bool na) (.slice A5 (digs a.natAbs).length c5)) := by rw [← hna]; exact hT5
    have T6 : Hid (TwoAt wq g6 (.bool nb) (.slice A6 (digs b.natAbs).length c6)) := by rw [← hnb]; exact hT6
    have HNA := Lib.hid hna
    have HNB := Lib.hid hnb
    have hlt5 := hT5.lt
    have hlt6 := hT6.lt
    clear hna hnb hT5 hT6 hV5 hV6 HI5 HI6
    generalize hz : a + b = z at *
    clear hz
    obtain ⟨r51, r52, _, _⟩ := T5.out.reads
    obtain ⟨r61, r62, _, _⟩ := T6.out.reads
    cases na with
    | false =>
      cases nb with
      | false =>
        have HZP := Lib.hid (fun (W : World) {A : Option Addr} {c : Nat} {zs : List Nat} (hr : Rd W W.heap.size A c zs) (hv : val zs = val (digs a.natAbs) + val (digs b.natAbs)) (hl : zs.length ≤ (digs a.natAbs).length + (digs b.natAbs).length + 1) => HZ.out false W A c zs hr (HSA.out false _ HNA.out HNB.out (by rw [hv, val_digs, val_digs])) (by omega))
        go_wp2_with fail
        go_region_held3 (fun w' => w'.cell? ⟨g5, 0, none⟩ = some (.bool false) ∧ w'.cell? ⟨g5, 1, none⟩ = some (.slice A5 (digs a.natAbs).length c5) ∧ w'.cell? ⟨g6, 0, none⟩ = some (.bool false) ∧ w'.cell? ⟨g6, 1, none⟩ = some (.slice A6 (digs b.natAbs).length c6))
          (first | exact ⟨r51, r52, r61, r62⟩ | exact ⟨p1, p2, p3, p4⟩ | exact ⟨q1, q2, q3, q4⟩ | exact ⟨cell_two q1 (by omega), cell_two q2 (by omega), cell_two q3 (by omega), cell_two q4 (by omega)⟩ | fail)
          (first
            | (go_at_call 65; ((with_reducible refine (HP.out _ GG.out.drew).mono ?_); rintro e v1 ⟨A, c, zs, rfl, hr1, hv1, hl1, hb1⟩; have G1 : Hid (Gr wq v1) := GG.out.drew.call hb1; have HSS := Lib.hid (HZP.out v1 hr1 hv1 hl1); have t5 := (T5.out.gr G1.out).reads; have t6 := (T6.out.gr G1.out).reads; obtain ⟨p1, p2, _, _⟩ := t5; obtain ⟨p3, p4, _, _⟩ := t6; clear hr1 hv1 hl1 hb1))
            | (go_at_call 60; ((with_reducible refine HSS.out.mono ?_); rintro e v2 ⟨v, rfl, hi, hb2⟩; have G2 : Hid (Gr wq v2) := G1.out.call hb2; have HI := Lib.hid hi; obtain ⟨A', c', hv, _, _⟩ := hi; subst hv; have t5 := (T5.out.gr G2.out).reads; have t6 := (T6.out.gr G2.out).reads; obtain ⟨q1, q2, _, _⟩ := t5; obtain ⟨q3, q4, _, _⟩ := t6; have hz := (HS5.out.next G2.out).three.reads; obtain ⟨z1, z2, z3, z4⟩ := hz; clear hb2))
            | fail)
        go_wp2
        have hn1 := G1.out.size
        refine bodyPost_ret (v := .agg #[.bool (decide (z < 0)), .slice A' (digs z.natAbs).length c']) ?_ rfl ⟨_, rfl, HI.out.stored2 (by omega) (by omega) _ _, ?_⟩
        · simp [results, Tryd.results31, go_sem, z1, z2]
        exact ((HS5.out.next G2.out).gr.set2 (by omega) _ _)
      | true =>
        go_wp2_with (go_at_call 66; fail)
        refine (HBL.out _ GG.out).mono ?_
        rintro e w' ⟨rfl, q, rfl⟩
        by_cases hlt : a.natAbs < b.natAbs
        · have HLT := Lib.hid hlt
          have hd : decide (a.natAbs < b.natAbs) = true := decide_eq_true hlt
          have HZM := Lib.hid (fun (W : World) {A : Option Addr} {c : Nat} {zs : List Nat} (hr : Rd W W.heap.size A c zs) (hv : val zs = val (digs b.natAbs) - val (digs a.natAbs)) (hl : zs.length = (digs b.natAbs).length) => HZ.out true W A c zs hr (HSL.out true _ HNA.out HNB.out HLT.out (by rw [hv, val_digs, val_digs])) (by omega))
          have HM' := Lib.hid (HM.out HLT.out)
          rw [hd]
          clear hd hlt
          have r51 := fun N => (show (wq.drewN N).cell? ⟨g5, 0, none⟩ = _ from r51)
          have r52 := fun N => (show (wq.drewN N).cell? ⟨g5, 1, none⟩ = _ from r52)
          have r61 := fun N => (show (wq.drewN N).cell? ⟨g6, 0, none⟩ = _ from r61)
          have r62 := fun N => (show (wq.drewN N).cell? ⟨g6, 1, none⟩ = _ from r62)
          go_wp2_with fail
          go_region_held3 (fun w' => w'.cell? ⟨g5, 0, none⟩ = some (.bool false) ∧ w'.cell? ⟨g5, 1, none⟩ = some (.slice A5 (digs a.natAbs).length c5) ∧ w'.cell? ⟨g6, 0, none⟩ = some (.bool true) ∧ w'.cell? ⟨g6, 1, none⟩ = some (.slice A6 (digs b.natAbs).length c6))
            (first | exact ⟨r51 q, r52 q, r61 q, r62 q⟩ | exact ⟨p1, p2, p3, p4⟩ | exact ⟨q1, q2, q3, q4⟩ | exact ⟨cell_two q1 (by omega), cell_two q2 (by omega), cell_two q3 (by omega), cell_two q4 (by omega)⟩ | fail)
            (first
              | (go_at_call 67; ((with_reducible refine (HM'.out _ (GG.out.drewN (q + 1))).mono ?_); rintro e v1 ⟨A, c, zs, rfl, hr1, hv1, hl1, hb1⟩; have G1 : Hid (Gr wq v1) := (GG.out.drewN (q + 1)).call hb1; have HSS := Lib.hid (HZM.out v1 hr1 hv1 hl1); have t5 := (T5.out.gr G1.out).reads; have t6 := (T6.out.gr G1.out).reads; obtain ⟨p1, p2, _, _⟩ := t5; obtain ⟨p3, p4, _, _⟩ := t6; clear hr1 hv1 hl1 hb1))
              | (go_at_call 60; ((with_reducible refine HSS.out.mono ?_); rintro e v2 ⟨v, rfl, hi, hb2⟩; have G2 : Hid (Gr wq v2) := G1.out.call hb2; have HI := Lib.hid hi; obtain ⟨A', c', hv, _, _⟩ := hi; subst hv; have t5 := (T5.out.gr G2.out).reads; have t6 := (T6.out.gr G2.out).reads; obtain ⟨q1, q2, _, _⟩ := t5; obtain ⟨q3, q4, _, _⟩ := t6; have hz := (HS5.out.next G2.out).three.reads; obtain ⟨z1, z2, z3, z4⟩ := hz; clear hb2))
              | fail)
          go_wp2
          have hn1 := G1.out.size
          refine bodyPost_ret (v := .agg #[.bool (decide (z < 0)), .slice A' (digs z.natAbs).length c']) ?_ rfl ⟨_, rfl, HI.out.stored2 (by omega) (by omega) _ _, ?_⟩
          · simp [results, Tryd.results31, go_sem, z1, z2]
          exact ((HS5.out.next G2.out).gr.set2 (by omega) _ _)
        · have HLT := Lib.hid hlt
          have hd : decide (a.natAbs < b.natAbs) = false := decide_eq_false hlt
          have HZN := Lib.hid (fun (W : World) {A : Option Addr} {c : Nat} {zs : List Nat} (hr : Rd W W.heap.size A c zs) (hv : val zs = val (digs a.natAbs) - val (digs b.natAbs)) (hl : zs.length = (digs a.natAbs).length) => HZ.out false W A c zs hr (HSG.out false _ HNA.out HNB.out HLT.out (by rw [hv, val_digs, val_digs])) (by omega))
          have HN' := Lib.hid (HN.out HLT.out)
          rw [hd]
          clear hd hlt
          have r51 := fun N => (show (wq.drewN N).cell? ⟨g5, 0, none⟩ = _ from r51)
          have r52 := fun N => (show (wq.drewN N).cell? ⟨g5, 1, none⟩ = _ from r52)
          have r61 := fun N => (show (wq.drewN N).cell? ⟨g6, 0, none⟩ = _ from r61)
          have r62 := fun N => (show (wq.drewN N).cell? ⟨g6, 1, none⟩ = _ from r62)
          go_wp2_with fail
          go_region_held3 (fun w' => w'.cell? ⟨g5, 0, none⟩ = some (.bool false) ∧ w'.cell? ⟨g5, 1, none⟩ = some (.slice A5 (digs a.natAbs).length c5) ∧ w'.cell? ⟨g6, 0, none⟩ = some (.bool true) ∧ w'.cell? ⟨g6, 1, none⟩ = some (.slice A6 (digs b.natAbs).length c6))
            (first | exact ⟨r51 q, r52 q, r61 q, r62 q⟩ | exact ⟨p1, p2, p3, p4⟩ | exact ⟨q1, q2, q3, q4⟩ | exact ⟨cell_two q1 (by omega), cell_two q2 (by omega), cell_two q3 (by omega), cell_two q4 (by omega)⟩ | fail)
            (first
              | (go_at_call 67; ((with_reducible refine (HN'.out _ (GG.out.drewN (q + 1))).mono ?_); rintro e v1 ⟨A, c, zs, rfl, hr1, hv1, hl1, hb1⟩; have G1 : Hid (Gr wq v1) := (GG.out.drewN (q + 1)).call hb1; have HSS := Lib.hid (HZN.out v1 hr1 hv1 hl1); have t5 := (T5.out.gr G1.out).reads; have t6 := (T6.out.gr G1.out).reads; obtain ⟨p1, p2, _, _⟩ := t5; obtain ⟨p3, p4, _, _⟩ := t6; clear hr1 hv1 hl1 hb1))
              | (go_at_call 60; ((with_reducible refine HSS.out.mono ?_); rintro e v2 ⟨v, rfl, hi, hb2⟩; have G2 : Hid (Gr wq v2) := G1.out.call hb2; have HI := Lib.hid hi; obtain ⟨A', c', hv, _, _⟩ := hi; subst hv; have t5 := (T5.out.gr G2.out).reads; have t6 := (T6.out.gr G2.out).reads; obtain ⟨q1, q2, _, _⟩ := t5; obtain ⟨q3, q4, _, _⟩ := t6; have hz := (HS5.out.next G2.out).three.reads; obtain ⟨z1, z2, z3, z4⟩ := hz; clear hb2))
              | fail)
          go_wp2
          have hn1 := G1.out.size
          refine bodyPost_ret (v := .agg #[.bool (decide (z < 0)), .slice A' (digs z.natAbs).length c']) ?_ rfl ⟨_, rfl, HI.out.stored2 (by omega) (by omega) _ _, ?_⟩
          · simp [results, Tryd.results31, go_sem, z1, z2]
          exact ((HS5.out.next G2.out).gr.set2 (by omega) _ _)
    | true =>
      cases nb with
      | false =>
        go_wp2_with (go_at_call 66; fail)
        refine (HBL.out _ GG.out).mono ?_
        rintro e w' ⟨rfl, q, rfl⟩
        by_cases hlt : a.natAbs < b.natAbs
        · have HLT := Lib.hid hlt
          have hd : decide (a.natAbs < b.natAbs) = true := decide_eq_true hlt
          have HZM := Lib.hid (fun (W : World) {A : Option Addr} {c : Nat} {zs : List Nat} (hr : Rd W W.heap.size A c zs) (hv : val zs = val (digs b.natAbs) - val (digs a.natAbs)) (hl : zs.length = (digs b.natAbs).length) => HZ.out false W A c zs hr (HSL.out false _ HNA.out HNB.out HLT.out (by rw [hv, val_digs, val_digs])) (by omega))
          have HM' := Lib.hid (HM.out HLT.out)
          rw [hd]
          clear hd hlt
          have r51 := fun N => (show (wq.drewN N).cell? ⟨g5, 0, none⟩ = _ from r51)
          have r52 := fun N => (show (wq.drewN N).cell? ⟨g5, 1, none⟩ = _ from r52)
          have r61 := fun N => (show (wq.drewN N).cell? ⟨g6, 0, none⟩ = _ from r61)
          have r62 := fun N => (show (wq.drewN N).cell? ⟨g6, 1, none⟩ = _ from r62)
          go_wp2_with fail
          go_region_held3 (fun w' => w'.cell? ⟨g5, 0, none⟩ = some (.bool true) ∧ w'.cell? ⟨g5, 1, none⟩ = some (.slice A5 (digs a.natAbs).length c5) ∧ w'.cell? ⟨g6, 0, none⟩ = some (.bool false) ∧ w'.cell? ⟨g6, 1, none⟩ = some (.slice A6 (digs b.natAbs).length c6))
            (first | exact ⟨r51 q, r52 q, r61 q, r62 q⟩ | exact ⟨p1, p2, p3, p4⟩ | exact ⟨q1, q2, q3, q4⟩ | exact ⟨cell_two q1 (by omega), cell_two q2 (by omega), cell_two q3 (by omega), cell_two q4 (by omega)⟩ | fail)
            (first
              | (go_at_call 67; ((with_reducible refine (HM'.out _ (GG.out.drewN (q + 1))).mono ?_); rintro e v1 ⟨A, c, zs, rfl, hr1, hv1, hl1, hb1⟩; have G1 : Hid (Gr wq v1) := (GG.out.drewN (q + 1)).call hb1; have HSS := Lib.hid (HZM.out v1 hr1 hv1 hl1); have t5 := (T5.out.gr G1.out).reads; have t6 := (T6.out.gr G1.out).reads; obtain ⟨p1, p2, _, _⟩ := t5; obtain ⟨p3, p4, _, _⟩ := t6; clear hr1 hv1 hl1 hb1))
              | (go_at_call 60; ((with_reducible refine HSS.out.mono ?_); rintro e v2 ⟨v, rfl, hi, hb2⟩; have G2 : Hid (Gr wq v2) := G1.out.call hb2; have HI := Lib.hid hi; obtain ⟨A', c', hv, _, _⟩ := hi; subst hv; have t5 := (T5.out.gr G2.out).reads; have t6 := (T6.out.gr G2.out).reads; obtain ⟨q1, q2, _, _⟩ := t5; obtain ⟨q3, q4, _, _⟩ := t6; have hz := (HS5.out.next G2.out).three.reads; obtain ⟨z1, z2, z3, z4⟩ := hz; clear hb2))
              | fail)
          go_wp2
          have hn1 := G1.out.size
          refine bodyPost_ret (v := .agg #[.bool (decide (z < 0)), .slice A' (digs z.natAbs).length c']) ?_ rfl ⟨_, rfl, HI.out.stored2 (by omega) (by omega) _ _, ?_⟩
          · simp [results, Tryd.results31, go_sem, z1, z2]
          exact ((HS5.out.next G2.out).gr.set2 (by omega) _ _)
        · have HLT := Lib.hid hlt
          have hd : decide (a.natAbs < b.natAbs) = false := decide_eq_false hlt
          have HZN := Lib.hid (fun (W : World) {A : Option Addr} {c : Nat} {zs : List Nat} (hr : Rd W W.heap.size A c zs) (hv : val zs = val (digs a.natAbs) - val (digs b.natAbs)) (hl : zs.length = (digs a.natAbs).length) => HZ.out true W A c zs hr (HSG.out true _ HNA.out HNB.out HLT.out (by rw [hv, val_digs, val_digs])) (by omega))
          have HN' := Lib.hid (HN.out HLT.out)
          rw [hd]
          clear hd hlt
          have r51 := fun N => (show (wq.drewN N).cell? ⟨g5, 0, none⟩ = _ from r51)
          have r52 := fun N => (show (wq.drewN N).cell? ⟨g5, 1, none⟩ = _ from r52)
          have r61 := fun N => (show (wq.drewN N).cell? ⟨g6, 0, none⟩ = _ from r61)
          have r62 := fun N => (show (wq.drewN N).cell? ⟨g6, 1, none⟩ = _ from r62)
          go_wp2_with fail
          go_region_held3 (fun w' => w'.cell? ⟨g5, 0, none⟩ = some (.bool true) ∧ w'.cell? ⟨g5, 1, none⟩ = some (.slice A5 (digs a.natAbs).length c5) ∧ w'.cell? ⟨g6, 0, none⟩ = some (.bool false) ∧ w'.cell? ⟨g6, 1, none⟩ = some (.slice A6 (digs b.natAbs).length c6))
            (first | exact ⟨r51 q, r52 q, r61 q, r62 q⟩ | exact ⟨p1, p2, p3, p4⟩ | exact ⟨q1, q2, q3, q4⟩ | exact ⟨cell_two q1 (by omega), cell_two q2 (by omega), cell_two q3 (by omega), cell_two q4 (by omega)⟩ | fail)
            (first
              | (go_at_call 67; ((with_reducible refine (HN'.out _ (GG.out.drewN (q + 1))).mono ?_); rintro e v1 ⟨A, c, zs, rfl, hr1, hv1, hl1, hb1⟩; have G1 : Hid (Gr wq v1) := (GG.out.drewN (q + 1)).call hb1; have HSS := Lib.hid (HZN.out v1 hr1 hv1 hl1); have t5 := (T5.out.gr G1.out).reads; have t6 := (T6.out.gr G1.out).reads; obtain ⟨p1, p2, _, _⟩ := t5; obtain ⟨p3, p4, _, _⟩ := t6; clear hr1 hv1 hl1 hb1))
              | (go_at_call 60; ((with_reducible refine HSS.out.mono ?_); rintro e v2 ⟨v, rfl, hi, hb2⟩; have G2 : Hid (Gr wq v2) := G1.out.call hb2; have HI := Lib.hid hi; obtain ⟨A', c', hv, _, _⟩ := hi; subst hv; have t5 := (T5.out.gr G2.out).reads; have t6 := (T6.out.gr G2.out).reads; obtain ⟨q1, q2, _, _⟩ := t5; obtain ⟨q3, q4, _, _⟩ := t6; have hz := (HS5.out.next G2.out).three.reads; obtain ⟨z1, z2, z3, z4⟩ := hz; clear hb2))
              | fail)
          go_wp2
          have hn1 := G1.out.size
          refine bodyPost_ret (v := .agg #[.bool (decide (z < 0)), .slice A' (digs z.natAbs).length c']) ?_ rfl ⟨_, rfl, HI.out.stored2 (by omega) (by omega) _ _, ?_⟩
          · simp [results, Tryd.results31, go_sem, z1, z2]
          exact ((HS5.out.next G2.out).gr.set2 (by omega) _ _)
      | true =>
        have HZP := Lib.hid (fun (W : World) {A : Option Addr} {c : Nat} {zs : List Nat} (hr : Rd W W.heap.size A c zs) (hv : val zs = val (digs a.natAbs) + val (digs b.natAbs)) (hl : zs.length ≤ (digs a.natAbs).length + (digs b.natAbs).length + 1) => HZ.out true W A c zs hr (HSA.out true _ HNA.out HNB.out (by rw [hv, val_digs, val_digs])) (by omega))
        go_wp2_with fail
        go_region_held3 (fun w' => w'.cell? ⟨g5, 0, none⟩ = some (.bool true) ∧ w'.cell? ⟨g5, 1, none⟩ = some (.slice A5 (digs a.natAbs).length c5) ∧ w'.cell? ⟨g6, 0, none⟩ = some (.bool true) ∧ w'.cell? ⟨g6, 1, none⟩ = some (.slice A6 (digs b.natAbs).length c6))
          (first | exact ⟨r51, r52, r61, r62⟩ | exact ⟨p1, p2, p3, p4⟩ | exact ⟨q1, q2, q3, q4⟩ | exact ⟨cell_two q1 (by omega), cell_two q2 (by omega), cell_two q3 (by omega), cell_two q4 (by omega)⟩ | fail)
          (first
            | (go_at_call 65; ((with_reducible refine (HP.out _ GG.out.drew).mono ?_); rintro e v1 ⟨A, c, zs, rfl, hr1, hv1, hl1, hb1⟩; have G1 : Hid (Gr wq v1) := GG.out.drew.call hb1; have HSS := Lib.hid (HZP.out v1 hr1 hv1 hl1); have t5 := (T5.out.gr G1.out).reads; have t6 := (T6.out.gr G1.out).reads; obtain ⟨p1, p2, _, _⟩ := t5; obtain ⟨p3, p4, _, _⟩ := t6; clear hr1 hv1 hl1 hb1))
            | (go_at_call 60; ((with_reducible refine HSS.out.mono ?_); rintro e v2 ⟨v, rfl, hi, hb2⟩; have G2 : Hid (Gr wq v2) := G1.out.call hb2; have HI := Lib.hid hi; obtain ⟨A', c', hv, _, _⟩ := hi; subst hv; have t5 := (T5.out.gr G2.out).reads; have t6 := (T6.out.gr G2.out).reads; obtain ⟨q1, q2, _, _⟩ := t5; obtain ⟨q3, q4, _, _⟩ := t6; have hz := (HS5.out.next G2.out).three.reads; obtain ⟨z1, z2, z3, z4⟩ := hz; clear hb2))
            | fail)
        go_wp2
        have hn1 := G1.out.size
        refine bodyPost_ret (v := .agg #[.bool (decide (z < 0)), .slice A' (digs z.natAbs).length c']) ?_ rfl ⟨_, rfl, HI.out.stored2 (by omega) (by omega) _ _, ?_⟩
        · simp [results, Tryd.results31, go_sem, z1, z2]
        exact ((HS5.out.next G2.out).gr.set2 (by omega) _ _)
end Go.Proofs.YtbijjiadokgmoaaDoor
namespace Go.Proofs.YtbijjiadokgmoaaDoor
open Go.RowKit

section
variable {w : World} {B l1 l2 : Nat} {v1 v2 : Value} {a b : Int}
theorem radd_raw (h1 : Raw w B v1 a l1) (h2 : Raw w B v2 b l2) (hB : B ≤ w.heap.size) (b1 : l1 ≤ 400000) (b2 : l2 ≤ 400000) : Calls Tryd.prog 31 #[v1, v2] w (IntRet w (a + b)) := by
  obtain ⟨n, A, c, xs, rfl, r1, rfl, k1⟩ := h1
  obtain ⟨m, A', c', ys, rfl, r2, rfl, k2⟩ := h2
  exact radd_any n m w r1 r2 hB (by omega) (by omega)
theorem rmul_raw (h1 : Raw w B v1 a l1) (h2 : Raw w B v2 b l2) (hB : B ≤ w.heap.size) (b1 : l1 ≤ 400000) (b2 : l2 ≤ 400000) : Calls Tryd.prog 35 #[v1, v2] w (IntRet w (a * b)) := by
  obtain ⟨n, A, c, xs, rfl, r1, rfl, k1⟩ := h1
  obtain ⟨m, A', c', ys, rfl, r2, rfl, k2⟩ := h2
  exact rmul_any n m w r1 r2 hB (by omega) (by omega)
end
set_option maxHeartbeats 1600000 in
set_option maxRecDepth 1000000 in
theorem rsub_any {B l1 l2 k1 k2 la lb : Nat} {A1 A2 : Option Addr} {a b : Int} (n1 n2 : Bool) (w : World) (h1 : Raw w B (.agg #[.bool n1, .slice A1 la k1]) a l1) (h2 : Raw w B (.agg #[.bool n2, .slice A2 lb k2]) b l2) (hB : B ≤ w.heap.size) (b1 : l1 ≤ 300000) (b2 : l2 ≤ 300000) :
    Calls Tryd.prog 33 #[.agg #[.bool n1, .slice A1 la k1], .agg #[.bool n2, .slice A2 lb k2]] w (IntRet w (a - b)) := by
  have hln : (digs (-b).natAbs).length ≤ l2 := by rw [Int.natAbs_neg]; exact digs_len h2.len
  have HN := Lib.hid (fun (W : World) (hg : Gr w W) => rneg_raw (h2.gr hg hB) (Nat.le_refl _) (by omega))
  have HA := Lib.hid (fun (W : World) (v : Value) (hg : Gr w W) (h : Raw W W.heap.size v (-b) l2) => radd_raw (h1.gr hg hB) h (Nat.le_refl _) (by omega) (by omega))
  have HL := Lib.hid hln
  clear h1 h2 hln
  rw [Int.sub_eq_add_neg]
  generalize a + -b = z at *
  have HS := Lib.hid (rst_boxes w (.bool n1) (.slice A1 la k1) (.bool n2) (.slice A2 lb k2) (.bool false) (.slice none 0 0))
  have GG : Hid (Gr (((w.alloc (.cells #[.bool n1, .slice A1 la k1] 24)).alloc (.cells #[.bool n2, .slice A2 lb k2] 24)).alloc (.cells #[.bool false, .slice none 0 0] 24)) (((w.alloc (.cells #[.bool n1, .slice A1 la k1] 24)).alloc (.cells #[.bool n2, .slice A2 lb k2] 24)).alloc (.cells #[.bool false, .slice none 0 0] 24))) := Gr.refl _
  obtain ⟨x1, x2, x3, x4, x5, x6⟩ := HS.out.cells
  go_enter Tryd.func33, Tryd.ntmps33
  go_wp2_with fail
  go_region_held3 (fun w' => w'.cell? ⟨w.heap.size, 0, none⟩ = some (.bool n1) ∧ w'.cell? ⟨w.heap.size, 1, none⟩ = some (.slice A1 la k1) ∧ w'.cell? ⟨w.heap.size + 1, 0, none⟩ = some (.bool n2) ∧ w'.cell? ⟨w.heap.size + 1, 1, none⟩ = some (.slice A2 lb k2))
    (first | exact ⟨x1, x2, x3, x4⟩ | exact ⟨p1, p2, p3, p4⟩ | exact ⟨q1, q2, q3, q4⟩ | exact ⟨cell_two q1 (by omega), cell_two q2 (by omega), cell_two q3 (by omega), cell_two q4 (by omega)⟩ | fail)
    (first
      | (go_at_call 27; ((with_reducible refine (HN.out _ (HS.out.next GG.out.drew).gr).mono ?_); rintro e v1 ⟨v, rfl, hi1, hb1⟩; have S1 := Lib.hid (HS.out.next (GG.out.drew.call hb1)); have HR := Lib.hid (IntIn.raw hi1 HL.out); have hc := S1.out.cells; obtain ⟨p1, p2, p3, p4, _, _⟩ := hc; clear hi1 hb1))
      | (go_at_call 31; ((with_reducible refine (HA.out _ _ S1.out.gr HR.out).mono ?_); rintro e v2 ⟨v', rfl, hi2, hb2⟩; have S2 := Lib.hid (S1.out.next hb2); have HI := Lib.hid hi2; obtain ⟨A', c', hv, _, _⟩ := hi2; subst hv; have hc := S2.out.cells; obtain ⟨q1, q2, q3, q4, _, _⟩ := hc; have hz := S2.out.three.reads; obtain ⟨z1, z2, z3, z4⟩ := hz; have hs1 := S1.out.size; clear hb2))
      | fail)
  go_wp2
  refine bodyPost_ret (v := .agg #[.bool (decide (z < 0)), .slice A' (digs z.natAbs).length c']) ?_ rfl ⟨_, rfl, HI.out.stored2 (by omega) (by omega) _ _, ?_⟩
  · simp [results, Tryd.results33, go_sem, z1, z2]
  exact (S2.out.gr.set2 (by omega) _ _)
theorem rsub_raw {w : World} {B l1 l2 : Nat} {v1 v2 : Value} {a b : Int} (h1 : Raw w B v1 a l1) (h2 : Raw w B v2 b l2) (hB : B ≤ w.heap.size) (b1 : l1 ≤ 300000) (b2 : l2 ≤ 300000) : Calls Tryd.prog 33 #[v1, v2] w (IntRet w (a - b)) := by
  have k1 := h1
  have k2 := h2
  obtain ⟨n, A, c, xs, rfl, _⟩ := h1
  obtain ⟨m, A', c', ys, rfl, _⟩ := h2
  exact rsub_any n m w k1 k2 hB b1 b2
theorem sub_sign (a b : Int) : (a - b).sign = cmpZ a b := by
  rcases Int.lt_trichotomy a b with h | h | h
  · rw [cmpZ_lt h, Int.sign_eq_neg_one_of_neg (by omega)]
  · subst h; rw [cmpZ_eq, Int.sub_self]; rfl
  · rw [cmpZ_gt h, Int.sign_eq_one_of_pos (by omega)]
set_option maxHeartbeats 1600000 in
set_option maxRecDepth 1000000 in
theorem rcmp_any {B l1 l2 k1 k2 la lb : Nat} {A1 A2 : Option Addr} {a b : Int} (n1 n2 : Bool) (w : World) (h1 : Raw w B (.agg #[.bool n1, .slice A1 la k1]) a l1) (h2 : Raw w B (.agg #[.bool n2, .slice A2 lb k2]) b l2) (hB : B ≤ w.heap.size) (b1 : l1 ≤ 100000) (b2 : l2 ≤ 100000) :
    Calls Tryd.prog 37 #[.agg #[.bool n1, .slice A1 la k1], .agg #[.bool n2, .slice A2 lb k2]] w fun e w' => e = .returned (.int .i64 (cmpZ a b)) ∧ Below w.heap.size w w' := by
  have hl : (digs (a - b).natAbs).length ≤ l1 + l2 + 1 := by
    refine digs_len ?_
    have e1 := h1.len
    have e2 := h2.len
    have e3 : (4294967296 : Nat) ^ l1 ≤ 4294967296 ^ (l1 + l2) := Nat.pow_le_pow_right (by omega) (by omega)
    have e4 : (4294967296 : Nat) ^ l2 ≤ 4294967296 ^ (l1 + l2) := Nat.pow_le_pow_right (by omega) (by omega)
    rw [Nat.pow_succ]
    generalize (4294967296 : Nat) ^ (l1 + l2) = P at *
    generalize (4294967296 : Nat) ^ l1 = P1 at *
    generalize (4294967296 : Nat) ^ l2 = P2 at *
    omega
  have HSB := Lib.hid (fun (W : World) (hg : Gr w W) => rsub_raw (h1.gr hg hB) (h2.gr hg hB) (Nat.le_refl _) (by omega) (by omega))
  have HSI := Lib.hid (fun (W : World) (v : Value) (h : Raw W W.heap.size v (a - b) (l1 + l2 + 1)) => (sub_sign a b ▸ rsign_raw h (Nat.le_refl _) (by omega) : Calls Tryd.prog 23 #[v] W fun e w' => e = .returned (.int .i64 (cmpZ a b)) ∧ Below W.heap.size W w'))
  have HL := Lib.hid hl
  clear h1 h2 hl
  generalize a - b = z at *
  generalize cmpZ a b = r at *
  have G2 : Hid (Gr w ((w.alloc (.cells #[.bool n1, .slice A1 la k1] 24)).alloc (.cells #[.bool n2, .slice A2 lb k2] 24))) := ((Gr.refl _).alloc _).alloc _
  go_enter Tryd.func37, Tryd.ntmps37
  go_wp2_with (go_at_call 33; fail)
  refine (HSB.out _ G2.out).mono ?_
  rintro e v1 ⟨v, rfl, hi, hb⟩
  have HR := Lib.hid (IntIn.raw hi HL.out)
  have G3 : Hid (Gr w v1) := G2.out.call hb
  clear hi hb
  go_wp2_with (go_at_call 23; fail)
  refine (HSI.out _ _ HR.out).mono ?_
  rintro e v2 ⟨rfl, hb2⟩
  have G4 : Hid (Gr w v2) := G3.out.call hb2
  clear hb2
  go_wp2
  go_ret
  exact ⟨rfl, G4.out⟩
theorem rcmp_is {w : World} {B l1 l2 : Nat} {v1 v2 : Value} {a b r : Int} (he : cmpZ a b = r) (h1 : Raw w B v1 a l1) (h2 : Raw w B v2 b l2) (hB : B ≤ w.heap.size) (b1 : l1 ≤ 100000) (b2 : l2 ≤ 100000) : Calls Tryd.prog 37 #[v1, v2] w fun e w' => e = .returned (.int .i64 r) ∧ Below w.heap.size w w' := by
  subst he
  have k1 := h1
  have k2 := h2
  obtain ⟨n, A, c, xs, rfl, _⟩ := h1
  obtain ⟨m, A', c', ys, rfl, _⟩ := h2
  exact rcmp_any n m w k1 k2 hB b1 b2
theorem ret_is {P : Program} {f : FuncId} {args : Array Value} {w : World} {r s : Int} (he : r = s) (h : Calls P f args w (IntRet w r)) : Calls P f args w (IntRet w s) := by subst he; exact h
end Go.Proofs.YtbijjiadokgmoaaDoor
