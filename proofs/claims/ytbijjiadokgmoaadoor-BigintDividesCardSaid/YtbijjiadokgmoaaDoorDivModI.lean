/- The contract of DivMod, over that of divide. -/
import Derived.Test.YtbijjiadokgmoaaDoorDivS
import Derived.Test.YtbijjiadokgmoaaDoorMulI
namespace Go.Proofs.YtbijjiadokgmoaaDoor
open Go.RowKit

theorem ediv_pos {a b q r : Int} (hb : 0 < b) (h : a = b * q + r) (h0 : 0 ≤ r) (h1 : r < b) : a / b = q ∧ a % b = r :=
  (Int.ediv_emod_unique hb).2 ⟨by omega, h0, h1⟩
theorem ediv_of {a b q r : Int} (h : a = b * q + r) (h0 : 0 ≤ r) (h1 : r < b.natAbs) : a / b = q ∧ a % b = r := by
  rcases Int.lt_trichotomy b 0 with hb | hb | hb
  · have h2 : a = (-b) * (-q) + r := by rw [Int.neg_mul_neg]; exact h
    obtain ⟨e1, e2⟩ := ediv_pos (b := -b) (by omega) h2 h0 (by omega)
    rw [Int.ediv_neg] at e1
    rw [Int.emod_neg] at e2
    exact ⟨by omega, e2⟩
  · subst hb; simp at h1; omega
  · exact ediv_pos hb h h0 (by omega)
/-- Quotient and remainder of two integers by those of their magnitudes. -/
theorem sgn_div {n1 n2 : Bool} {x y : Nat} (hy : 0 < y) (hc : n1 = false ∨ x % y = 0) : sgn n1 x / sgn n2 y = sgn (!(n1 == n2)) (x / y) ∧ sgn n1 x % sgn n2 y = sgn false (x % y) := by
  have hd := Nat.div_add_mod x y
  have hm := Nat.mod_lt x hy
  refine ediv_of ?_ (by unfold sgn; simp; omega) (by rw [sgn_abs]; unfold sgn; simp; omega)
  rw [← sgn_mul]
  generalize x / y = q at *
  generalize x % y = r at *
  rcases hc with rfl | hr
  · cases n2 <;> simp [sgn] <;> omega
  · subst hr; cases n1 <;> cases n2 <;> simp [sgn] <;> omega
theorem sgn_div_up {n2 : Bool} {x y : Nat} (hy : 0 < y) (hr : 0 < x % y) : sgn true x / sgn n2 y = sgn (!(true == n2)) (x / y + 1) ∧ sgn true x % sgn n2 y = sgn false (y - x % y) := by
  have hd := Nat.div_add_mod x y
  have hm := Nat.mod_lt x hy
  refine ediv_of ?_ (by unfold sgn; simp) (by rw [sgn_abs]; unfold sgn; simp; omega)
  rw [← sgn_mul]
  have e : y * (x / y + 1) = y * (x / y) + y := Nat.mul_succ _ _
  generalize y * (x / y + 1) = p at *
  generalize y * (x / y) = p' at *
  cases n2 <;> simp [sgn] <;> omega

/-- Two boxes and two results, no draw. -/
theorem boxes4 (w : World) (a0 a1 b0 b1 r0 r1 s0 s1 : Value) (t : TypeId) : ∃ W : World, W = (((w.alloc (.cells #[a0, a1] t)).alloc (.cells #[b0, b1] t)).alloc (.cells #[r0, r1] t)).alloc (.cells #[s0, s1] t) ∧
    W.cell? ⟨w.heap.size, 0, none⟩ = some a0 ∧ W.cell? ⟨w.heap.size, 1, none⟩ = some a1 ∧ W.cell? ⟨w.heap.size + 1, 0, none⟩ = some b0 ∧ W.cell? ⟨w.heap.size + 1, 1, none⟩ = some b1 ∧
    W.heap[w.heap.size + 1 + 1]? = some (.cells #[r0, r1] t (0, 0)) ∧ W.heap[w.heap.size + 1 + 1 + 1]? = some (.cells #[s0, s1] t (0, 0)) ∧ W.heap.size = w.heap.size + 4 ∧ Below w.heap.size w W := by
  obtain ⟨W3, rfl, x1, x2, y1, y2, hr, hs, hb⟩ := boxes3 w a0 a1 b0 b1 r0 r1 t
  refine ⟨_, rfl, ?_⟩
  have hb3 : Below (w.heap.size + 3) (((w.alloc (.cells #[a0, a1] t)).alloc (.cells #[b0, b1] t)).alloc (.cells #[r0, r1] t)) ((((w.alloc (.cells #[a0, a1] t)).alloc (.cells #[b0, b1] t)).alloc (.cells #[r0, r1] t)).alloc (.cells #[s0, s1] t)) := (Below.refl _ _).alloc (by simp) _
  have hn := heap_alloc_new (((w.alloc (.cells #[a0, a1] t)).alloc (.cells #[b0, b1] t)).alloc (.cells #[r0, r1] t)) (.cells #[s0, s1] t)
  rw [World.size_alloc, World.size_alloc, World.size_alloc] at hn
  exact ⟨(hb3.cell (p := ⟨w.heap.size, 0, none⟩) (by show w.heap.size < _; omega)).trans x1, (hb3.cell (p := ⟨w.heap.size, 1, none⟩) (by show w.heap.size < _; omega)).trans x2, (hb3.cell (p := ⟨w.heap.size + 1, 0, none⟩) (by show w.heap.size + 1 < _; omega)).trans y1, (hb3.cell (p := ⟨w.heap.size + 1, 1, none⟩) (by show w.heap.size + 1 < _; omega)).trans y2, (hb3.block _ (by omega)).trans hr, hn, by simp, ((((Below.refl _ _).alloc (Nat.le_refl _) _).alloc (by simp) _).alloc (by simp; omega) _).alloc (by simp; omega) _⟩

/-- What DivMod leaves. -/
def DMRet (w : World) (q r : Int) (e : Ending) (w' : World) : Prop :=
  ∃ v1 v2, e = .returned (.tuple #[v1, v2, .int .i64 0]) ∧ IntIn w w' v1 q ∧ IntIn w w' v2 r ∧ Below w.heap.size w w'

set_option maxHeartbeats 3200000 in
set_option maxRecDepth 1000000 in
theorem divmod_pos {B c1 c2 x y Q R : Nat} {A1 A2 : Option Addr} {xs ys : List Nat} (n2 : Bool) (w : World) (h1 : Rd w B A1 c1 xs) (h2 : Rd w B A2 c2 ys) (hB : B ≤ w.heap.size) (hx : xs.length ≤ 1000000) (hy : ys.length ≤ 1000000) (hxv : val xs = x) (hyv : val ys = y) (hy0 : 0 < y) 
    (HD : Hid (∀ W : World, Below w.heap.size w W → Calls Tryd.prog 70 #[.slice A1 (digs x).length c1, .slice A2 (digs y).length c2] W (DivRet W Q R))) :
    Calls Tryd.prog 38 #[.agg #[.bool false, .slice A1 xs.length c1], .agg #[.bool n2, .slice A2 ys.length c2]] w (DMRet w (sgn n2 Q) (sgn false R)) := by
  subst hxv hyv
  have HT1 := Lib.hid (fun (W : World) (hb : Below w.heap.size w W) => trim_any W (h1.below (hb.mono hB)) hx)
  have HT2 := Lib.hid (fun (W : World) (hb : Below w.heap.size w W) => trim_any W (h2.below (hb.mono hB)) hy)
  have hyl := digs_pos_len hy0
  have hyb : (((digs (val ys)).length : Int) == 0) = false := by rw [beq_eq_false_iff_ne]; omega
  have HS1 := Lib.hid (fun (W w1 : World) (A : Option Addr) (c : Nat) (hr : Rd w1 w1.heap.size A c (digs Q)) (hf : ∀ a, A = some a → W.heap.size ≤ a.block) => signed_any (n2) W w1 hr hf)
  have HS2 := Lib.hid (fun (W w1 : World) (A : Option Addr) (c : Nat) (hr : Rd w1 w1.heap.size A c (digs R)) (hf : ∀ a, A = some a → W.heap.size ≤ a.block) => signed_any false W w1 hr hf)
  clear h1 h2
  generalize sgn (n2) Q = zq at *
  generalize sgn false R = zr at *
  clear hyl hy0
  obtain ⟨W, HWE, x1, x2, y1, y2, hr1, hr2, hsz, hb0⟩ := boxes4 w (.bool false) (.slice A1 xs.length c1) (.bool n2) (.slice A2 ys.length c2) (.bool false) (.slice none 0 0) (.bool false) (.slice none 0 0) 24
  have HR1 := Lib.hid hr1
  have HR2 := Lib.hid hr2
  have HSZ := Lib.hid hsz
  have HB0 := Lib.hid hb0
  clear hr1 hr2 hsz hb0
  subst HWE
  go_enter Tryd.func38, Tryd.ntmps38
  go_wp2_with (go_at_call 55; fail)
  refine (HT2.out _ HB0.out).mono ?_
  rintro e w' ⟨rfl, rfl⟩
  go_wp2_with (go_at_call 55; fail)
  refine (HT1.out _ HB0.out).mono ?_
  rintro e w' ⟨rfl, rfl⟩
  go_wp2_with (go_at_call 70; fail)
  refine (HD.out _ HB0.out).mono ?_
  rintro e w1 ⟨A, A', c, c', rfl, hq, hr, hfq, hfr, hb1⟩
  obtain ⟨hbc, _⟩ := bcell hb1
  have u1 := (hbc _ _ (by rw [HSZ.out]; omega)).trans x1
  have u2 := (hbc _ _ (by rw [HSZ.out]; omega)).trans y1
  have hs1 := hb1.size
  rw [HSZ.out] at hs1
  have HX1 : Hid (w1.heap[w.heap.size + 1 + 1]? = some (.cells #[.bool false, .slice none 0 0] 24 (0, 0))) := (hb1.block _ (by rw [HSZ.out]; omega)).trans HR1.out
  have HX2 : Hid (w1.heap[w.heap.size + 1 + 1 + 1]? = some (.cells #[.bool false, .slice none 0 0] 24 (0, 0))) := (hb1.block _ (by rw [HSZ.out]; omega)).trans HR2.out
  have HBW : Hid (Below w.heap.size w w1) := HB0.out.trans (hb1.mono (by rw [HSZ.out]; omega))
  have HQ := Lib.hid (HS1.out _ _ _ _ hq hfq)
  have HRR := Lib.hid hr
  have HFR := Lib.hid hfr
  clear hq hr hfq hfr hb1 hbc
  go_wp2_with (go_at_call 57; fail)
  refine HQ.out.mono ?_
  rintro e w2 ⟨v, rfl, hi, hb2⟩
  have HI := Lib.hid hi
  obtain ⟨B1, k1, rfl, _, _⟩ := hi
  have HB2 := Lib.hid hb2
  have hs2 := hb2.size
  have HRR2 := Lib.hid (HS2.out _ w2 _ _ ((HRR.out.below hb2).mono hb2.size) HFR.out)
  clear hb2
  go_wp2_with (go_at_call 57; fail)
  refine HRR2.out.mono ?_
  rintro e w3 ⟨v, rfl, hi3, hb3⟩
  have HI3 := Lib.hid hi3
  obtain ⟨B2, k2, rfl, _, _⟩ := hi3
  have HI2 := Lib.hid (HI.out.below hb3)
  have hx1 : w3.heap[w.heap.size + 1 + 1]? = some (.cells #[.bool false, .slice none 0 0] 24 (0, 0)) := (hb3.block _ (by omega)).trans ((HB2.out.block _ (by omega)).trans HX1.out)
  have hx2 : w3.heap[w.heap.size + 1 + 1 + 1]? = some (.cells #[.bool false, .slice none 0 0] 24 (0, 0)) := (hb3.block _ (by omega)).trans ((HB2.out.block _ (by omega)).trans HX2.out)
  obtain ⟨p1, p2, p3, p4⟩ := two_of_block hx1
  obtain ⟨q1, q2, q3, q4⟩ := two_of_block hx2
  have HB3 : Hid (Below w.heap.size w w3) := (HBW.out.trans (HB2.out.mono (by omega))).trans (hb3.mono (by omega))
  have hs3 := hb3.size
  clear hb3 hx1 hx2
  go_wp2
  refine bodyPost_ret (v := .tuple #[.agg #[.bool (decide (zq < 0)), .slice B1 (digs zq.natAbs).length k1], .agg #[.bool (decide (zr < 0)), .slice B2 (digs zr.natAbs).length k2], .int .i64 0]) ?_ rfl ⟨_, _, rfl, ?_, ?_, ?_⟩
  · simp [results, Tryd.results38, go_sem, p1, p2, q1, q2]
  · exact (HI2.out.stored2 (w := _) (by rw [HSZ.out]; omega) (Nat.le_refl _) _ _).stored2 (by rw [HSZ.out]; omega) (by rw [HSZ.out]; omega) _ _
  · exact (HI3.out.stored2 (w := _) (by rw [HSZ.out]; omega) (Nat.le_refl _) _ _).stored2 (by rw [HSZ.out]; omega) (by rw [HSZ.out]; omega) _ _
  · exact ((((HB3.out.setCell (by simp; omega) _).setCell (by simp; omega) _).setCell (by simp; omega) _).setCell (by simp; omega) _)

set_option maxHeartbeats 3200000 in
set_option maxRecDepth 1000000 in
theorem divmod_zero {B c1 c2 x y Q R : Nat} {A1 A2 : Option Addr} {xs ys : List Nat} (n2 : Bool) (w : World) (h1 : Rd w B A1 c1 xs) (h2 : Rd w B A2 c2 ys) (hB : B ≤ w.heap.size) (hx : xs.length ≤ 1000000) (hy : ys.length ≤ 1000000) (hxv : val xs = x) (hyv : val ys = y) (hy0 : 0 < y) (hR : R = 0)
    (HD : Hid (∀ W : World, Below w.heap.size w W → Calls Tryd.prog 70 #[.slice A1 (digs x).length c1, .slice A2 (digs y).length c2] W (DivRet W Q R))) :
    Calls Tryd.prog 38 #[.agg #[.bool true, .slice A1 xs.length c1], .agg #[.bool n2, .slice A2 ys.length c2]] w (DMRet w (sgn (!n2) Q) (sgn false R)) := by
  subst hxv hyv
  have HT1 := Lib.hid (fun (W : World) (hb : Below w.heap.size w W) => trim_any W (h1.below (hb.mono hB)) hx)
  have HT2 := Lib.hid (fun (W : World) (hb : Below w.heap.size w W) => trim_any W (h2.below (hb.mono hB)) hy)
  have hyl := digs_pos_len hy0
  have hyb : (((digs (val ys)).length : Int) == 0) = false := by rw [beq_eq_false_iff_ne]; omega
  have hgd : decide (0 < (digs R).length) = false := by rw [hR, digs_zero]; rfl
  clear hR
  have HS1 := Lib.hid (fun (W w1 : World) (A : Option Addr) (c : Nat) (hr : Rd w1 w1.heap.size A c (digs Q)) (hf : ∀ a, A = some a → W.heap.size ≤ a.block) => signed_any (!n2) W w1 hr hf)
  have HS2 := Lib.hid (fun (W w1 : World) (A : Option Addr) (c : Nat) (hr : Rd w1 w1.heap.size A c (digs R)) (hf : ∀ a, A = some a → W.heap.size ≤ a.block) => signed_any false W w1 hr hf)
  clear h1 h2
  generalize sgn (!n2) Q = zq at *
  generalize sgn false R = zr at *
  clear hyl hy0
  obtain ⟨W, HWE, x1, x2, y1, y2, hr1, hr2, hsz, hb0⟩ := boxes4 w (.bool true) (.slice A1 xs.length c1) (.bool n2) (.slice A2 ys.length c2) (.bool false) (.slice none 0 0) (.bool false) (.slice none 0 0) 24
  have HR1 := Lib.hid hr1
  have HR2 := Lib.hid hr2
  have HSZ := Lib.hid hsz
  have HB0 := Lib.hid hb0
  clear hr1 hr2 hsz hb0
  subst HWE
  go_enter Tryd.func38, Tryd.ntmps38
  go_wp2_with (go_at_call 55; fail)
  refine (HT2.out _ HB0.out).mono ?_
  rintro e w' ⟨rfl, rfl⟩
  go_wp2_with (go_at_call 55; fail)
  refine (HT1.out _ HB0.out).mono ?_
  rintro e w' ⟨rfl, rfl⟩
  go_wp2_with (go_at_call 70; fail)
  refine (HD.out _ HB0.out).mono ?_
  rintro e w1 ⟨A, A', c, c', rfl, hq, hr, hfq, hfr, hb1⟩
  obtain ⟨hbc, _⟩ := bcell hb1
  have u1 := (hbc _ _ (by rw [HSZ.out]; omega)).trans x1
  have u2 := (hbc _ _ (by rw [HSZ.out]; omega)).trans y1
  have hs1 := hb1.size
  rw [HSZ.out] at hs1
  have HX1 : Hid (w1.heap[w.heap.size + 1 + 1]? = some (.cells #[.bool false, .slice none 0 0] 24 (0, 0))) := (hb1.block _ (by rw [HSZ.out]; omega)).trans HR1.out
  have HX2 : Hid (w1.heap[w.heap.size + 1 + 1 + 1]? = some (.cells #[.bool false, .slice none 0 0] 24 (0, 0))) := (hb1.block _ (by rw [HSZ.out]; omega)).trans HR2.out
  have HBW : Hid (Below w.heap.size w w1) := HB0.out.trans (hb1.mono (by rw [HSZ.out]; omega))
  have HQ := Lib.hid (HS1.out _ _ _ _ hq hfq)
  have HRR := Lib.hid hr
  have HFR := Lib.hid hfr
  clear hq hr hfq hfr hb1 hbc
  go_wp2_with (go_at_call 57; fail)
  refine HQ.out.mono ?_
  rintro e w2 ⟨v, rfl, hi, hb2⟩
  have HI := Lib.hid hi
  obtain ⟨B1, k1, rfl, _, _⟩ := hi
  have HB2 := Lib.hid hb2
  have hs2 := hb2.size
  have HRR2 := Lib.hid (HS2.out _ w2 _ _ ((HRR.out.below hb2).mono hb2.size) HFR.out)
  clear hb2
  go_wp2_with (go_at_call 57; fail)
  refine HRR2.out.mono ?_
  rintro e w3 ⟨v, rfl, hi3, hb3⟩
  have HI3 := Lib.hid hi3
  obtain ⟨B2, k2, rfl, _, _⟩ := hi3
  have HI2 := Lib.hid (HI.out.below hb3)
  have hx1 : w3.heap[w.heap.size + 1 + 1]? = some (.cells #[.bool false, .slice none 0 0] 24 (0, 0)) := (hb3.block _ (by omega)).trans ((HB2.out.block _ (by omega)).trans HX1.out)
  have hx2 : w3.heap[w.heap.size + 1 + 1 + 1]? = some (.cells #[.bool false, .slice none 0 0] 24 (0, 0)) := (hb3.block _ (by omega)).trans ((HB2.out.block _ (by omega)).trans HX2.out)
  obtain ⟨p1, p2, p3, p4⟩ := two_of_block hx1
  obtain ⟨q1, q2, q3, q4⟩ := two_of_block hx2
  have HB3 : Hid (Below w.heap.size w w3) := (HBW.out.trans (HB2.out.mono (by omega))).trans (hb3.mono (by omega))
  have hs3 := hb3.size
  clear hb3 hx1 hx2
  go_wp2
  refine bodyPost_ret (v := .tuple #[.agg #[.bool (decide (zq < 0)), .slice B1 (digs zq.natAbs).length k1], .agg #[.bool (decide (zr < 0)), .slice B2 (digs zr.natAbs).length k2], .int .i64 0]) ?_ rfl ⟨_, _, rfl, ?_, ?_, ?_⟩
  · simp [results, Tryd.results38, go_sem, p1, p2, q1, q2]
  · exact (HI2.out.stored2 (w := _) (by rw [HSZ.out]; omega) (Nat.le_refl _) _ _).stored2 (by rw [HSZ.out]; omega) (by rw [HSZ.out]; omega) _ _
  · exact (HI3.out.stored2 (w := _) (by rw [HSZ.out]; omega) (Nat.le_refl _) _ _).stored2 (by rw [HSZ.out]; omega) (by rw [HSZ.out]; omega) _ _
  · exact ((((HB3.out.setCell (by simp; omega) _).setCell (by simp; omega) _).setCell (by simp; omega) _).setCell (by simp; omega) _)

set_option maxHeartbeats 3200000 in
set_option maxRecDepth 1000000 in
theorem divmod_up {B c1 c2 x y Q R : Nat} {A1 A2 : Option Addr} {xs ys : List Nat} (n2 : Bool) (w : World) (h1 : Rd w B A1 c1 xs) (h2 : Rd w B A2 c2 ys) (hB : B ≤ w.heap.size) (hx : xs.length ≤ 1000000) (hy : ys.length ≤ 1000000) (hxv : val xs = x) (hyv : val ys = y) (hy0 : 0 < y) (hR : 0 < R) (hRy : R ≤ y) (hyl2 : (digs y).length ≤ 1000000) (hQl : (digs Q).length ≤ 1000000)
    (HD : Hid (∀ W : World, Below w.heap.size w W → Calls Tryd.prog 70 #[.slice A1 (digs x).length c1, .slice A2 (digs y).length c2] W (DivRet W Q R))) :
    Calls Tryd.prog 38 #[.agg #[.bool true, .slice A1 xs.length c1], .agg #[.bool n2, .slice A2 ys.length c2]] w (DMRet w (sgn (!n2) (Q + 1)) (sgn false (y - R))) := by
  subst hxv hyv
  have HT1 := Lib.hid (fun (W : World) (hb : Below w.heap.size w W) => trim_any W (h1.below (hb.mono hB)) hx)
  have HT2 := Lib.hid (fun (W : World) (hb : Below w.heap.size w W) => trim_any W (h2.below (hb.mono hB)) hy)
  have hyl := digs_pos_len hy0
  have hyb : (((digs (val ys)).length : Int) == 0) = false := by rw [beq_eq_false_iff_ne]; omega
  have hgd : decide (0 < (digs R).length) = true := decide_eq_true (digs_pos_len hR)
  have HSUM := Lib.hid (fun (W w1 : World) (A : Option Addr) (c : Nat) (hr : Rd W w1.heap.size A c (digs Q)) (hB : w1.heap.size ≤ W.heap.size) (h1 : Rd W (w1.heap.size + 1) (some ⟨w1.heap.size, 0, none⟩) 1 (digs 1)) (hs : w1.heap.size + 1 ≤ W.heap.size) => sum_any W (hr.mono (Nat.le_succ _)) h1 hs hQl (by rw [show digs 1 = [1] from digs_one (by omega) (by omega)]; simp))
  have HDIF := Lib.hid (fun (W : World) (B' : Nat) (A : Option Addr) (c : Nat) (h2 : Rd W B A2 c2 (digs (val ys))) (hr : Rd W B' A c (digs R)) (hBB : B ≤ B') (hB' : B' ≤ W.heap.size) => difference_any W (h2.mono hBB) hr hB' hRy hyl2)
  have H2 := Lib.hid (h2.digs)
  clear hR
  have HS1 := Lib.hid (fun (W w1 : World) (A : Option Addr) (c : Nat) (hr : Rd w1 w1.heap.size A c (digs (Q + 1))) (hf : ∀ a, A = some a → W.heap.size ≤ a.block) => signed_any (!n2) W w1 hr hf)
  have HS2 := Lib.hid (fun (W w1 : World) (A : Option Addr) (c : Nat) (hr : Rd w1 w1.heap.size A c (digs (val ys - R))) (hf : ∀ a, A = some a → W.heap.size ≤ a.block) => signed_any false W w1 hr hf)
  clear h1 h2
  generalize sgn (!n2) (Q + 1) = zq at *
  generalize sgn false (val ys - R) = zr at *
  clear hyl hy0
  obtain ⟨W, HWE, x1, x2, y1, y2, hr1, hr2, hsz, hb0⟩ := boxes4 w (.bool true) (.slice A1 xs.length c1) (.bool n2) (.slice A2 ys.length c2) (.bool false) (.slice none 0 0) (.bool false) (.slice none 0 0) 24
  have HR1 := Lib.hid hr1
  have HR2 := Lib.hid hr2
  have HSZ := Lib.hid hsz
  have HB0 := Lib.hid hb0
  clear hr1 hr2 hsz hb0
  subst HWE
  go_enter Tryd.func38, Tryd.ntmps38
  go_wp2_with (go_at_call 55; fail)
  refine (HT2.out _ HB0.out).mono ?_
  rintro e w' ⟨rfl, rfl⟩
  go_wp2_with (go_at_call 55; fail)
  refine (HT1.out _ HB0.out).mono ?_
  rintro e w' ⟨rfl, rfl⟩
  go_wp2_with (go_at_call 70; fail)
  refine (HD.out _ HB0.out).mono ?_
  rintro e w1 ⟨A, A', c, c', rfl, hq, hr, hfq, hfr, hb1⟩
  obtain ⟨hbc, _⟩ := bcell hb1
  have u1 := (hbc _ _ (by rw [HSZ.out]; omega)).trans x1
  have u2 := (hbc _ _ (by rw [HSZ.out]; omega)).trans y1
  have hs1 := hb1.size
  rw [HSZ.out] at hs1
  have HX1 : Hid (w1.heap[w.heap.size + 1 + 1]? = some (.cells #[.bool false, .slice none 0 0] 24 (0, 0))) := (hb1.block _ (by rw [HSZ.out]; omega)).trans HR1.out
  have HX2 : Hid (w1.heap[w.heap.size + 1 + 1 + 1]? = some (.cells #[.bool false, .slice none 0 0] 24 (0, 0))) := (hb1.block _ (by rw [HSZ.out]; omega)).trans HR2.out
  have HB1 := Lib.hid hb1
  have HRq := Lib.hid hq
  have HRr := Lib.hid hr
  have HFr := Lib.hid hfr
  clear hq hr hfq hfr hb1 hbc
  go_wp2_with (go_at_call 71; fail)
  have h11 : Rd (w1.alloc (.cells #[.int .u32 1] 64)) (w1.heap.size + 1) (some ⟨w1.heap.size, 0, none⟩) 1 (digs 1) := by
    have e1 : digs 1 = [1] := digs_one (by omega) (by omega)
    rw [e1]
    exact (own_new w1 (ds := [1]) (cs := #[.int .u32 1]) (dgs_cons (by omega) dgs_nil) rfl).rd (Nat.le_refl _) (by unfold maxLen; omega) (by omega)
  have HSU : Hid (Calls Tryd.prog 71 #[.slice A (digs Q).length c, .slice (some ⟨w1.heap.size, 0, none⟩) 1 1] (w1.alloc (.cells #[.int .u32 1] 64)) (MagRet (w1.alloc (.cells #[.int .u32 1] 64)) (Q + 1))) := by
    have := HSUM.out (w1.alloc (.cells #[.int .u32 1] 64)) w1 A c (HRq.out.alloc (Nat.le_refl _) _) (by simp) h11 (by simp)
    rwa [show (digs 1).length = 1 by rw [digs_one (by omega) (by omega)]; rfl] at this
  clear h11
  refine HSU.out.mono ?_
  rintro e v1 ⟨A3, c3, rfl, hq3, hf3, hb3⟩
  have HBV : Hid (Below w1.heap.size w1 v1) := ((Below.refl _ _).alloc (Nat.le_refl _) _).trans (hb3.mono (by simp))
  have HRq3 := Lib.hid hq3
  have HFq3 : Hid (∀ a, A3 = some a → w1.heap.size ≤ a.block) := fun a ha => Nat.le_trans (by simp) (hf3 a ha)
  have hsv := HBV.out.size
  clear hq3 hf3 hb3
  go_wp2_with (go_at_call 72; fail)
  refine (HDIF.out v1 v1.heap.size A' c' (((H2.out.below (HB0.out.mono hB)).below (HB1.out.mono (by rw [HSZ.out]; omega))).below (HBV.out.mono (by omega))) ((HRr.out.below HBV.out).mono hsv) (by omega) (Nat.le_refl _)).mono ?_
  rintro e v2 ⟨A4, c4, rfl, hr4, hf4, hb4⟩
  have HBX : Hid (Below w1.heap.size w1 v2) := HBV.out.trans (hb4.mono hsv)
  have HQ := Lib.hid (HS1.out _ v2 _ _ ((HRq3.out.below hb4).mono hb4.size) (fun a ha => Nat.le_trans HB1.out.size (HFq3.out a ha)))
  have HRR := Lib.hid hr4
  have HFR : Hid (∀ a, A4 = some a → _ ≤ a.block) := fun a ha => Nat.le_trans HB1.out.size (Nat.le_trans hsv (hf4 a ha))
  obtain ⟨hbc2, _⟩ := bcell HBX.out
  have t1 := (hbc2 _ _ (by omega)).trans u1
  have t2 := (hbc2 _ _ (by omega)).trans u2
  have HX1' : Hid (v2.heap[w.heap.size + 1 + 1]? = some (.cells #[.bool false, .slice none 0 0] 24 (0, 0))) := (HBX.out.block _ (by omega)).trans HX1.out
  have HX2' : Hid (v2.heap[w.heap.size + 1 + 1 + 1]? = some (.cells #[.bool false, .slice none 0 0] 24 (0, 0))) := (HBX.out.block _ (by omega)).trans HX2.out
  have HBW : Hid (Below w.heap.size w v2) := (HB0.out.trans (HB1.out.mono (by rw [HSZ.out]; omega))).trans (HBX.out.mono (by omega))
  have hs1' : w.heap.size + 4 ≤ v2.heap.size := Nat.le_trans hs1 HBX.out.size
  clear hr4 hf4 hb4 hbc2 u1 u2 HX1 HX2
  go_wp2_with (go_at_call 57; fail)
  refine HQ.out.mono ?_
  rintro e w2 ⟨v, rfl, hi, hb2⟩
  have HI := Lib.hid hi
  obtain ⟨B1, k1, rfl, _, _⟩ := hi
  have HB2 := Lib.hid hb2
  have hs2 := hb2.size
  have HRR2 := Lib.hid (HS2.out _ w2 _ _ ((HRR.out.below hb2).mono hb2.size) HFR.out)
  clear hb2
  go_wp2_with (go_at_call 57; fail)
  refine HRR2.out.mono ?_
  rintro e w3 ⟨v, rfl, hi3, hb3⟩
  have HI3 := Lib.hid hi3
  obtain ⟨B2, k2, rfl, _, _⟩ := hi3
  have HI2 := Lib.hid (HI.out.below hb3)
  have hx1 : w3.heap[w.heap.size + 1 + 1]? = some (.cells #[.bool false, .slice none 0 0] 24 (0, 0)) := (hb3.block _ (by omega)).trans ((HB2.out.block _ (by omega)).trans HX1'.out)
  have hx2 : w3.heap[w.heap.size + 1 + 1 + 1]? = some (.cells #[.bool false, .slice none 0 0] 24 (0, 0)) := (hb3.block _ (by omega)).trans ((HB2.out.block _ (by omega)).trans HX2'.out)
  obtain ⟨p1, p2, p3, p4⟩ := two_of_block hx1
  obtain ⟨q1, q2, q3, q4⟩ := two_of_block hx2
  have HB3 : Hid (Below w.heap.size w w3) := (HBW.out.trans (HB2.out.mono (by omega))).trans (hb3.mono (by omega))
  have hs3 := hb3.size
  clear hb3 hx1 hx2
  go_wp2
  refine bodyPost_ret (v := .tuple #[.agg #[.bool (decide (zq < 0)), .slice B1 (digs zq.natAbs).length k1], .agg #[.bool (decide (zr < 0)), .slice B2 (digs zr.natAbs).length k2], .int .i64 0]) ?_ rfl ⟨_, _, rfl, ?_, ?_, ?_⟩
  · simp [results, Tryd.results38, go_sem, p1, p2, q1, q2]
  · exact (HI2.out.stored2 (w := _) (by rw [HSZ.out]; omega) (Nat.le_refl _) _ _).stored2 (by rw [HSZ.out]; omega) (by rw [HSZ.out]; omega) _ _
  · exact (HI3.out.stored2 (w := _) (by rw [HSZ.out]; omega) (Nat.le_refl _) _ _).stored2 (by rw [HSZ.out]; omega) (by rw [HSZ.out]; omega) _ _
  · exact ((((HB3.out.setCell (by simp; omega) _).setCell (by simp; omega) _).setCell (by simp; omega) _).setCell (by simp; omega) _)

/-- DivMod by a divisor that is not 0, over divide. -/
theorem divmod_any {B c1 c2 : Nat} {A1 A2 : Option Addr} {xs ys : List Nat} (n1 n2 : Bool) (w : World) (h1 : Rd w B A1 c1 xs) (h2 : Rd w B A2 c2 ys) (hB : B ≤ w.heap.size) (hx : xs.length ≤ 1000000) (hy : ys.length ≤ 1000000) (hy0 : 0 < val ys)
    (HD : ∀ W : World, Below w.heap.size w W → Calls Tryd.prog 70 #[.slice A1 (digs (val xs)).length c1, .slice A2 (digs (val ys)).length c2] W (DivRet W (val xs / val ys) (val xs % val ys))) :
    Calls Tryd.prog 38 #[.agg #[.bool n1, .slice A1 xs.length c1], .agg #[.bool n2, .slice A2 ys.length c2]] w (DMRet w (sgn n1 (val xs) / sgn n2 (val ys)) (sgn n1 (val xs) % sgn n2 (val ys))) := by
  cases n1 with
  | false =>
    obtain ⟨eq, er⟩ := sgn_div (n1 := false) (n2 := n2) (x := val xs) hy0 (.inl rfl)
    rw [eq, er, show (!(false == n2)) = n2 by cases n2 <;> rfl]
    exact divmod_pos n2 w h1 h2 hB hx hy rfl rfl hy0 HD
  | true =>
    rcases Nat.eq_zero_or_pos (val xs % val ys) with hr | hr
    · obtain ⟨eq, er⟩ := sgn_div (n1 := true) (n2 := n2) (x := val xs) hy0 (.inr hr)
      rw [eq, er, show (!(true == n2)) = !n2 by cases n2 <;> rfl]
      exact divmod_zero n2 w h1 h2 hB hx hy rfl rfl hy0 hr HD
    · obtain ⟨eq, er⟩ := sgn_div_up (n2 := n2) (x := val xs) hy0 hr
      rw [eq, er, show (!(true == n2)) = !n2 by cases n2 <;> rfl]
      exact divmod_up n2 w h1 h2 hB hx hy rfl rfl hy0 hr (Nat.le_of_lt (Nat.mod_lt _ hy0)) (by have := digs_le_len h2.dgs; omega) (by have := digs_le_len h1.dgs; have := digs_len_mono (Nat.div_le_self (val xs) (val ys)); omega) HD
end Go.Proofs.YtbijjiadokgmoaaDoor
