/- Contract of Mul. -/
import Derived.Test.YtbijjiadokgmoaaDoorAddI
import Derived.Test.YtbijjiadokgmoaaDoorProd
import Derived.Deep.RegionHeld3
namespace Go.Proofs.YtbijjiadokgmoaaDoor
open Go.RowKit

theorem sgn_mul (n1 n2 : Bool) (x y : Nat) : sgn (!(n1 == n2)) (x * y) = sgn n1 x * sgn n2 y := by
  cases n1 <;> cases n2 <;> simp [sgn, Int.mul_neg, Int.neg_mul]

theorem cell_two {w2 : World} {g b o : Nat} {x y v : Value} (h : w2.cell? ⟨b, o, none⟩ = some v) (hne : b ≠ g) : ((w2.setCell ⟨g, 0, none⟩ x).setCell ⟨g, 1, none⟩ y).cell? ⟨b, o, none⟩ = some v := by
  rw [World.cell?_setCell_other _ _ _ _ (fun e => hne (by injection e with e1; exact e1.symm)), World.cell?_setCell_other _ _ _ _ (fun e => hne (by injection e with e1; exact e1.symm))]
  exact h
set_option maxHeartbeats 3200000 in
set_option maxRecDepth 1000000 in
theorem mul_any {B c1 c2 : Nat} {A1 A2 : Option Addr} {xs ys : List Nat} (n1 n2 : Bool) (w : World) (h1 : Rd w B A1 c1 xs) (h2 : Rd w B A2 c2 ys) (hB : B ≤ w.heap.size) (hx : xs.length ≤ 500000) (hy : ys.length ≤ 500000) (hs : xs.length < 48 ∨ ys.length < 48) :
    Calls Tryd.prog 34 #[.agg #[.bool n1, .slice A1 xs.length c1], .agg #[.bool n2, .slice A2 ys.length c2]] w (IntRet w (sgn n1 (val xs) * sgn n2 (val ys))) := by
  have HT1 := Lib.hid (fun (W : World) (hb : Below w.heap.size w W) => trim_still W (h1.below (hb.mono hB)) (by omega))
  have HT2 := Lib.hid (fun (W : World) (hb : Below w.heap.size w W) => trim_still W (h2.below (hb.mono hB)) (by omega))
  have HP := Lib.hid (fun (W : World) (hb : Below w.heap.size w W) => product_any W (h1.digs.below (hb.mono hB)) (h2.digs.below (hb.mono hB)) (by have := hb.size; omega) (by have := digs_le_len h1.dgs; omega) (by have := digs_le_len h2.dgs; omega) (by have := digs_le_len h1.dgs; have := digs_le_len h2.dgs; omega))
  have HSG : Hid (∀ (W w1 : World) (A : Option Addr) (c : Nat), Rd w1 w1.heap.size A c (digs (val xs * val ys)) → (∀ a, A = some a → W.heap.size ≤ a.block) → Calls Tryd.prog 57 #[.bool (!(n1 == n2)), .slice A (digs (val xs * val ys)).length c] w1 fun e w' => ∃ v, e = .returned v ∧ IntIn W w' v (sgn n1 (val xs) * sgn n2 (val ys)) ∧ Below w1.heap.size w1 w') := fun W w1 A c hr hf => by
    rw [← sgn_mul]; exact signed_any (!(n1 == n2)) W w1 hr hf
  clear h1 h2
  generalize hz : sgn n1 (val xs) * sgn n2 (val ys) = z at *
  clear hz
  obtain ⟨W, HWE, x1, x2, y1, y2, hr, hsz, hb0⟩ := boxes3 w (.bool n1) (.slice A1 xs.length c1) (.bool n2) (.slice A2 ys.length c2) (.bool false) (.slice none 0 0) 24
  have HR := Lib.hid hr
  have HSZ := Lib.hid hsz
  have HB0 := Lib.hid hb0
  clear hr hsz hb0
  subst HWE
  go_enter Tryd.func34, Tryd.ntmps34
  go_wp2_with fail
  go_region_held3 (fun w' => w'.cell? ⟨w.heap.size, 0, none⟩ = some (.bool n1) ∧ w'.cell? ⟨w.heap.size, 1, none⟩ = some (.slice A1 xs.length c1) ∧ w'.cell? ⟨w.heap.size + 1, 0, none⟩ = some (.bool n2) ∧ w'.cell? ⟨w.heap.size + 1, 1, none⟩ = some (.slice A2 ys.length c2))
    (first | exact ⟨x1, x2, y1, y2⟩ | exact ⟨p1, p2, p3, p4⟩ | exact ⟨q1, q2, q3, q4⟩ | exact ⟨cell_two q1 (by omega), cell_two q2 (by omega), cell_two q3 (by omega), cell_two q4 (by omega)⟩)
    (first
      | (go_at_call 55; ((with_reducible refine (HT1.out _ HB0.out).mono ?_); rintro e w' ⟨rfl, rfl⟩))
      | (go_at_call 55; ((with_reducible refine (HT2.out _ HB0.out).mono ?_); rintro e w' ⟨rfl, rfl⟩))
      | (go_at_call 68; ((with_reducible refine (HP.out _ HB0.out).mono ?_); rintro e w1 ⟨A, c, rfl, hr1, hf1, hb1⟩; have HSS := Lib.hid (HSG.out _ _ _ _ hr1 hf1); obtain ⟨hbc, _⟩ := bcell hb1; have p1 := (hbc _ _ (by rw [HSZ.out]; omega)).trans x1; have p2 := (hbc _ _ (by rw [HSZ.out]; omega)).trans x2; have p3 := (hbc _ _ (by rw [HSZ.out]; omega)).trans y1; have p4 := (hbc _ _ (by rw [HSZ.out]; omega)).trans y2; have HB1 := Lib.hid hb1; clear hr1 hf1 hb1 hbc))
      | (go_at_call 57; ((with_reducible refine HSS.out.mono ?_); rintro e w2 ⟨v, rfl, hi, hb2⟩; have hs1 := HB1.out.size; rw [HSZ.out] at hs1; have HX0 : Hid (w2.heap[w.heap.size + 1 + 1]? = some (.cells #[.bool false, .slice none 0 0] 24 (0, 0))) := (hb2.block _ (by omega)).trans ((HB1.out.block _ (by rw [HSZ.out]; omega)).trans HR.out); obtain ⟨z1, z2, z3, z4⟩ := two_of_block HX0.out; have HI := Lib.hid hi; obtain ⟨A', c', hv, _, _⟩ := hi; subst hv; obtain ⟨hbc, _⟩ := bcell hb2; have q1 := (hbc _ _ (by omega)).trans p1; have q2 := (hbc _ _ (by omega)).trans p2; have q3 := (hbc _ _ (by omega)).trans p3; have q4 := (hbc _ _ (by omega)).trans p4; have HB2 : Hid (Below w.heap.size w w2) := (HB0.out.trans (HB1.out.mono (by rw [HSZ.out]; omega))).trans (hb2.mono (by omega)); clear hb2 hbc)))
  go_wp2
  refine bodyPost_ret (v := .agg #[.bool (decide (z < 0)), .slice A' (digs z.natAbs).length c']) ?_ rfl ⟨_, rfl, HI.out.stored2 (by have := HSZ.out; omega) (by have := HSZ.out; omega) _ _, ?_⟩
  · simp [results, Tryd.results34, go_sem, z1, z2]
  exact (HB2.out.setCell (by simp; omega) _).setCell (by simp; omega) _
end Go.Proofs.YtbijjiadokgmoaaDoor
