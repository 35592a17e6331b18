/- dirichlet.Quadratic of a fundamental discriminant. -/
import Derived.Test.YtlagljnhbhnelaaGnI
import Derived.Test.YtlagljnhbhnelaaDnB
namespace Go.Proofs.Ytlagljnhbhnelaa
open Go.RowKit
set_option linter.unusedVariables false
set_option linter.unusedSimpArgs false

set_option maxHeartbeats 3200000 in
set_option maxRecDepth 1000000 in
theorem dquad_any (D : Int) (w : World) (hf : fdB D = true) (d1 : -60 ≤ D) (d2 : D ≤ 60) :
    Calls Try.prog 44 #[.int .i64 D] w fun e w' => ∃ v, e = .returned (.tuple #[.agg #[.int .i64 (D.natAbs : Nat), v], .int .i64 0]) ∧ w'.ownsRow (w.heap.size + 2) 3 1 v (quE D D.natAbs).length (zs (quE D D.natAbs)) ∧ Below w.heap.size w w' := by
  unfold fdB at hf
  simp only [Bool.and_eq_true, decide_eq_true_eq] at hf
  obtain ⟨⟨h0, h4⟩, he⟩ := hf
  have hmax : max D (-D) = ((D.natAbs : Nat) : Int) := by omega
  have hneg : IntKind.i64.wrap (-D) = -D := IntWalk.i64_in _ (by omega)
  have HF := Lib.hid (fun W => fund_F D (sgn D) D.natAbs (facs 2 D.natAbs) W rfl h0 rfl (by omega) rfl h4)
  have HC := Lib.hid (fun V hV => charq_any D D.natAbs w.heap.size V (by omega) (by omega) d1 d2 hV)
  have HB0 : Hid (Below w.heap.size w ((w.alloc (.cells #[.int .i64 D] 3)).alloc (.cells #[.int .i64 0, .slice none 0 0] 33))) := below2 w _ _
  have T0 : Hid (((w.alloc (.cells #[.int .i64 D] 3)).alloc (.cells #[.int .i64 0, .slice none 0 0] 33)).heap[w.heap.size]? = some (.cells #[.int .i64 D] 3 (0, 0))) := block_alloc (heap_alloc_new w _) _
  have R0 : Hid (((w.alloc (.cells #[.int .i64 D] 3)).alloc (.cells #[.int .i64 0, .slice none 0 0] 33)).heap[w.heap.size + 1]? = some (.cells #[.int .i64 0, .slice none 0 0] 33 (0, 0))) := by
    have := heap_alloc_new (w.alloc (.cells #[.int .i64 D] 3)) (.cells #[.int .i64 0, .slice none 0 0] 33)
    show _ = _
    simpa using this
  have c0 := cell_of_one T0.out
  have i1 : ¬ D < -60 := by omega
  have i2 : (D == 0) = false := by rw [beq_eq_false_iff_ne]; exact h0
  have i3 : ¬ 60 < D := by omega
  clear h4
  go_enter Try.func44, Try.ntmps44
  go_wp2_with (first
    | (go_at_call 62; ((with_reducible refine (HF.out _).mono ?_); rintro e w1 ⟨disc, f, rfl, hh, hb⟩; have HB := Lib.hid (HB0.out.trans (hb.mono HB0.out.size)); have T1 := Lib.hid (block_below T0.out hb); have R1 := Lib.hid (block_below R0.out hb); have c1 := cell_of_one T1.out; have hdd := funV_of rfl hh.out; rw [he] at hdd; subst hdd; clear hb hh he HF c0))
    | (go_at_call 59; ((with_reducible refine (HC.out _ T1.out).mono ?_); rintro e w3 ⟨v, rfl, ho, hb⟩; obtain ⟨A0, l0, cc0, rfl⟩ := ownsRow_slice ho; have HO := Lib.hid ho; have HB3 := Lib.hid (HB.out.trans (hb.mono HB.out.size)); have R3 := Lib.hid (block_below R1.out hb); obtain ⟨r0, r1, rf⟩ := cells_two R3.out; clear hb ho))
    | fail)
  have hs1 := lt_of_block R1.out
  have R4 := Lib.hid (two_setC R3.out (.int .i64 (disc.natAbs : Nat)) (.slice A0 l0 cc0))
  obtain ⟨s0, s1, sf⟩ := cells_two R4.out
  have HO2 := Lib.hid (own_base (show w.heap.size + 2 ≤ w1.heap.size + 2 by omega) (ownsRow_setCell_below (ownsRow_setCell_below HO.out (a := ⟨w.heap.size + 1, 0, none⟩) (by show w.heap.size + 1 < w1.heap.size + 2; omega) (.int .i64 (disc.natAbs : Nat))) (a := ⟨w.heap.size + 1, 1, none⟩) (by show w.heap.size + 1 < w1.heap.size + 2; omega) (.slice A0 l0 cc0)))
  have HB4 := Lib.hid ((HB3.out.setCell (p := ⟨w.heap.size + 1, 0, none⟩) (by show w.heap.size ≤ w.heap.size + 1; omega) (.int .i64 (disc.natAbs : Nat))).setCell (p := ⟨w.heap.size + 1, 1, none⟩) (by show w.heap.size ≤ w.heap.size + 1; omega) (.slice A0 l0 cc0))
  refine bodyPost_ret (v := .tuple #[.agg #[.int .i64 (disc.natAbs : Nat), .slice A0 l0 cc0], .int .i64 0]) ?_ rfl ⟨_, rfl, HO2.out, HB4.out⟩
  simp [results, Try.results44, go_sem, s0, s1]
end Go.Proofs.Ytlagljnhbhnelaa
