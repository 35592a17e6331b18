/- Contracts of the reference's Norm, signed and Of. -/
import Derived.Test.YtbijjiadokgmoaaDoorRTrim
namespace Go.Proofs.YtbijjiadokgmoaaDoor
open Go.RowKit

/-- A magnitude and a sign make a normalized integer. -/
theorem IntIn.of_mag {w0 w : World} {A : Option Addr} {c r : Nat} (neg : Bool) (hr : Rd w w.heap.size A c (digs r)) (hf : ∀ a, A = some a → w0.heap.size ≤ a.block) : IntIn w0 w (.agg #[.bool (neg && decide (0 < (digs r).length)), .slice A (digs r).length c]) (sgn neg r) := by
  refine ⟨A, c, ?_, by rw [sgn_abs]; exact hr, hf⟩
  rw [sgn_abs]
  congr 3
  rcases Nat.eq_zero_or_pos r with h0 | h0
  · rw [h0, digs_zero, sgn_zero]; simp
  · rw [sgn_neg h0, decide_eq_true (digs_pos_len h0), Bool.and_true]

set_option maxHeartbeats 1600000 in
set_option maxRecDepth 1000000 in
theorem rnorm_any {B c1 : Nat} {A1 : Option Addr} {xs : List Nat} (n1 : Bool) (w : World) (h1 : Rd w B A1 c1 xs) (hB : B ≤ w.heap.size) (hx : xs.length ≤ 1000000) :
    Calls Tryd.prog 21 #[.agg #[.bool n1, .slice A1 xs.length c1]] w (IntRet w (sgn n1 (val xs))) := by
  have hdl := digs_le_len h1.dgs
  have HT := Lib.hid (fun (W : World) (hb : Below w.heap.size w W) => rtrim_any W (h1.below (hb.mono hB)) (by have := hb.size; omega) hx)
  have HI := Lib.hid (fun (W w1 : World) (A : Option Addr) (c : Nat) (hr : Rd w1 w1.heap.size A c (digs (val xs))) (hf : ∀ a, A = some a → W.heap.size ≤ a.block) => IntIn.of_mag (w0 := W) n1 hr hf)
  clear h1
  generalize sgn n1 (val xs) = z at *
  generalize val xs = r at *
  obtain ⟨W, HWE, x1, x2, hr, hsz, hb0⟩ := boxes2 w (.bool n1) (.slice A1 xs.length c1) (.bool false) (.slice none 0 0) 24
  have HR := Lib.hid hr
  have HSZ := Lib.hid hsz
  have HB0 := Lib.hid hb0
  clear hr hsz hb0
  subst HWE
  have hlb : (((digs r).length : Int) ≤ 1000000) := by omega
  go_enter Tryd.func21, Tryd.ntmps21
  go_wp2_with (go_at_call 62; fail)
  refine (HT.out _ HB0.out).mono ?_
  rintro e w1 ⟨A, c, rfl, hr1, hf1, hb1⟩
  have HII := Lib.hid (HI.out _ _ _ _ hr1 hf1)
  have HB1 := Lib.hid hb1
  obtain ⟨hbc, _⟩ := bcell hb1
  have y1 := (hbc _ _ (by rw [HSZ.out]; omega)).trans x1
  have hs1 := hb1.size
  rw [HSZ.out] at hs1
  have HX0 : Hid (w1.heap[w.heap.size + 1]? = some (.cells #[.bool false, .slice none 0 0] 24 (0, 0))) := (hb1.block _ (by rw [HSZ.out]; omega)).trans HR.out
  obtain ⟨z1, z2, z3, z4⟩ := two_of_block HX0.out
  have HB2 : Hid (Below w.heap.size w w1) := HB0.out.trans (hb1.mono (by rw [HSZ.out]; omega))
  clear hr1 hf1 hb1 hbc
  cases n1 with
  | false =>
    go_wp2
    refine bodyPost_ret (v := .agg #[.bool false, .slice A (digs r).length c]) ?_ rfl ⟨_, rfl, HII.out.stored2 (by rw [HSZ.out]; omega) (by rw [HSZ.out]; omega) _ _, (HB2.out.setCell (by simp) _).setCell (by simp) _⟩
    simp [results, Tryd.results21, go_sem, z1, z2]
  | true =>
    go_wp2
    refine bodyPost_ret (v := .agg #[.bool (decide (0 < (digs r).length)), .slice A (digs r).length c]) ?_ rfl ⟨_, rfl, HII.out.stored2 (by rw [HSZ.out]; omega) (by rw [HSZ.out]; omega) _ _, (HB2.out.setCell (by simp) _).setCell (by simp) _⟩
    simp [results, Tryd.results21, go_sem, z1, z2]

set_option maxHeartbeats 1600000 in
set_option maxRecDepth 1000000 in
theorem rsigned_any {B c1 : Nat} {A1 : Option Addr} {xs : List Nat} (neg : Bool) (w : World) (h1 : Rd w B A1 c1 xs) (hB : B ≤ w.heap.size) (hx : xs.length ≤ 1000000) :
    Calls Tryd.prog 60 #[.bool neg, .slice A1 xs.length c1] w (IntRet w (sgn neg (val xs))) := by
  have HN := Lib.hid (fun (W : World) (hb : Below w.heap.size w W) => rnorm_any neg W (h1.below (hb.mono hB)) (by have := hb.size; omega) hx)
  clear h1
  generalize sgn neg (val xs) = z at *
  go_enter Tryd.func60, Tryd.ntmps60
  go_wp2_with (go_at_call 21; fail)
  refine (HN.out _ ((Below.refl _ _).alloc (Nat.le_refl _) _)).mono ?_
  rintro e w1 ⟨v, rfl, hi, hb⟩
  have HI := Lib.hid hi
  obtain ⟨A', c', rfl, _, _⟩ := hi
  have hx0 : w1.heap[w.heap.size]? = some (.cells #[.bool false, .slice none 0 0] 24 (0, 0)) := (hb.block _ (by simp)).trans (heap_alloc_new w _)
  obtain ⟨z1, z2, z3, z4⟩ := two_of_block hx0
  have HB : Hid (Below w.heap.size w w1) := ((Below.refl _ _).alloc (Nat.le_refl _) _).trans (hb.mono (by simp))
  clear hb hx0
  go_wp2
  refine bodyPost_ret (v := .agg #[.bool (decide (z < 0)), .slice A' (digs z.natAbs).length c']) ?_ rfl ⟨_, rfl, HI.out.stored _ _, (HB.out.setCell (by simp) _).setCell (by simp) _⟩
  simp [results, Tryd.results60, go_sem, z1, z2]

theorem rd_two (w : World) (R : Obj) {d0 d1 : Nat} (b0 : d0 < 4294967296) (b1 : d1 < 4294967296) : Rd ((w.alloc R).alloc (.cells #[.int .u32 d0, .int .u32 d1] 64)) (w.heap.size + 2) (some ⟨w.heap.size + 1, 0, none⟩) 2 [d0, d1] := by
  have h := own_new (w.alloc R) (ds := [d0, d1]) (cs := #[.int .u32 d0, .int .u32 d1]) (dgs_cons b0 (dgs_cons b1 dgs_nil)) rfl
  rw [World.size_alloc] at h
  exact h.rd (Nat.le_refl _) (by unfold maxLen; omega) (by omega)
/-- What a machine integer's magnitude is, as a word. -/
theorem u64_of_neg {n : Int} (h : n < 0) (h1 : -9223372036854775808 ≤ n) : ∃ a : Int, IntKind.u64.wrap n = a ∧ IntKind.u64.wrap (-a) = (n.natAbs : Int) := by
  refine ⟨n + 18446744073709551616, ?_, ?_⟩
  · rw [IntKind.wrap_u64]; omega
  · rw [IntKind.wrap_u64]; omega
theorem u64_of_pos {n : Int} (h : 0 ≤ n) (h1 : n ≤ 9223372036854775807) : IntKind.u64.wrap n = (n.natAbs : Int) := by
  rw [IntKind.wrap_u64]; omega
/-- The two halves of a word. -/
theorem halves {m : Nat} (h : m < 18446744073709551616) : ∃ d0 d1 : Nat, d0 < 4294967296 ∧ d1 < 4294967296 ∧ IntKind.u32.wrap (m : Int) = (d0 : Int) ∧ (m : Int) / 4294967296 = (d1 : Int) ∧ val [d0, d1] = m :=
  ⟨m % 4294967296, m / 4294967296, by omega, by omega, by rw [IntKind.wrap_u32]; omega, by omega, by simp only [val]; omega⟩

set_option maxHeartbeats 1600000 in
set_option maxRecDepth 1000000 in
theorem rof_neg {n a : Int} {m d0 d1 : Nat} (w : World) (h : n < 0) (e1 : IntKind.u64.wrap n = a) (e2 : IntKind.u64.wrap (-a) = (m : Int)) (b0 : d0 < 4294967296) (b1 : d1 < 4294967296) (e3 : IntKind.u32.wrap (m : Int) = (d0 : Int)) (e4 : (m : Int) / 4294967296 = (d1 : Int)) (HZ : Hid (sgn true (val [d0, d1]) = n)) :
    Calls Tryd.prog 19 #[.int .i64 n] w (IntRet w n) := by
  go_enter Tryd.func19, Tryd.ntmps19
  go_wp2_with (go_at_call 60; fail)
  refine (rsigned_any (xs := [d0, d1]) true _ (rd_two w _ b0 b1) (by simp) (by simp)).mono ?_
  rintro e w1 ⟨v, rfl, hi, hb⟩
  rw [HZ.out] at hi
  have HI := Lib.hid hi
  obtain ⟨A', c', rfl, _, _⟩ := hi
  have hx0 : w1.heap[w.heap.size]? = some (.cells #[.bool false, .slice none 0 0] 24 (0, 0)) := (hb.block _ (by simp; omega)).trans ((Below.heap_alloc _ _ _ (by simp)).trans (heap_alloc_new w _))
  obtain ⟨z1, z2, z3, z4⟩ := two_of_block hx0
  have HB : Hid (Below w.heap.size w w1) := (((Below.refl _ _).alloc (Nat.le_refl _) _).alloc (by simp) _).trans (hb.mono (by simp; omega))
  clear hb hx0
  go_wp2
  refine bodyPost_ret (v := .agg #[.bool (decide (n < 0)), .slice A' (digs n.natAbs).length c']) ?_ rfl ⟨_, rfl, HI.out.stored2 (by simp; omega) (by simp; omega) _ _, (HB.out.setCell (by simp) _).setCell (by simp) _⟩
  simp [results, Tryd.results19, go_sem, z1, z2, h]
set_option maxHeartbeats 1600000 in
set_option maxRecDepth 1000000 in
theorem rof_pos {n : Int} {m d0 d1 : Nat} (w : World) (h : 0 ≤ n) (e2 : IntKind.u64.wrap n = (m : Int)) (b0 : d0 < 4294967296) (b1 : d1 < 4294967296) (e3 : IntKind.u32.wrap (m : Int) = (d0 : Int)) (e4 : (m : Int) / 4294967296 = (d1 : Int)) (HZ : Hid (sgn false (val [d0, d1]) = n)) :
    Calls Tryd.prog 19 #[.int .i64 n] w (IntRet w n) := by
  have hbb : decide (n < 0) = false := decide_eq_false (by omega)
  have HH := Lib.hid h
  clear h
  go_enter Tryd.func19, Tryd.ntmps19
  go_wp2_with (go_at_call 60; fail)
  refine (rsigned_any (xs := [d0, d1]) false _ (rd_two w _ b0 b1) (by simp) (by simp)).mono ?_
  rintro e w1 ⟨v, rfl, hi, hb⟩
  rw [HZ.out] at hi
  have HI := Lib.hid hi
  obtain ⟨A', c', rfl, _, _⟩ := hi
  have hx0 : w1.heap[w.heap.size]? = some (.cells #[.bool false, .slice none 0 0] 24 (0, 0)) := (hb.block _ (by simp; omega)).trans ((Below.heap_alloc _ _ _ (by simp)).trans (heap_alloc_new w _))
  obtain ⟨z1, z2, z3, z4⟩ := two_of_block hx0
  have HB : Hid (Below w.heap.size w w1) := (((Below.refl _ _).alloc (Nat.le_refl _) _).alloc (by simp) _).trans (hb.mono (by simp; omega))
  clear hb hx0
  go_wp2
  refine bodyPost_ret (v := .agg #[.bool (decide (n < 0)), .slice A' (digs n.natAbs).length c']) ?_ rfl ⟨_, rfl, HI.out.stored2 (by simp; omega) (by simp; omega) _ _, (HB.out.setCell (by simp) _).setCell (by simp) _⟩
  simp [results, Tryd.results19, go_sem, z1, z2, HH.out]

theorem rof_any {n : Int} (w : World) (h1 : -9223372036854775808 ≤ n) (h2 : n ≤ 9223372036854775807) : Calls Tryd.prog 19 #[.int .i64 n] w (IntRet w n) := by
  obtain ⟨d0, d1, b0, b1, e3, e4, hv⟩ := halves (m := n.natAbs) (by omega)
  rcases Int.lt_or_le n 0 with h | h
  · obtain ⟨a, e1, e2⟩ := u64_of_neg h h1
    exact rof_neg w h e1 e2 b0 b1 e3 e4 (show sgn true (val [d0, d1]) = n by rw [hv]; unfold sgn; simp; omega)
  · exact rof_pos w h (u64_of_pos h h2) b0 b1 e3 e4 (show sgn false (val [d0, d1]) = n by rw [hv]; unfold sgn; simp; omega)
end Go.Proofs.YtbijjiadokgmoaaDoor
