/- The contracts of signature's withGenus, Formula0 and Formula1. -/
import Derived.Test.YtaofkfphkkfbnaaCt0L
import Derived.Test.YtaofkfphkkfbnaaLawK
import Derived.Deep.DeepCutAuto
import Derived.Deep.CutBlock
import Derived.Deep.RegionHeld3
import Derived.IntWalk
namespace Go.Proofs.Ytaofkfphkkfbnaa
open Go.RowKit
set_option linter.unusedVariables false
set_option linter.unusedSimpArgs false

theorem seven_of_block {w : World} {b : Nat} {x0 x1 x2 x3 x4 x5 x6 : Value} {t : TypeId} (h : w.heap[b]? = some (.cells #[x0, x1, x2, x3, x4, x5, x6] t (0, 0))) :
    (w.cell? ⟨b, 0, none⟩ = some x0 ∧ w.cell? ⟨b, 1, none⟩ = some x1 ∧ w.cell? ⟨b, 2, none⟩ = some x2 ∧ w.cell? ⟨b, 3, none⟩ = some x3 ∧ w.cell? ⟨b, 4, none⟩ = some x4 ∧ w.cell? ⟨b, 5, none⟩ = some x5 ∧ w.cell? ⟨b, 6, none⟩ = some x6) ∧ (∀ k, w.frozen? ⟨b, k, none⟩ = false) :=
  ⟨⟨by rw [cell_of_row w b 0 _ t _ h]; rfl, by rw [cell_of_row w b 1 _ t _ h]; rfl, by rw [cell_of_row w b 2 _ t _ h]; rfl, by rw [cell_of_row w b 3 _ t _ h]; rfl, by rw [cell_of_row w b 4 _ t _ h]; rfl, by rw [cell_of_row w b 5 _ t _ h]; rfl, by rw [cell_of_row w b 6 _ t _ h]; rfl⟩, fun j => frozen_of_row w b j _ t h⟩
theorem seven_set {w : World} {g : Nat} {x0 x1 x2 x3 x4 x5 x6 : Value} {t : TypeId} (h : w.heap[g]? = some (.cells #[x0, x1, x2, x3, x4, x5, x6] t (0, 0))) (y0 y1 y2 y3 y4 y5 y6 : Value) :
    (((((((w.setCell ⟨g, 0, none⟩ y0).setCell ⟨g, 1, none⟩ y1).setCell ⟨g, 2, none⟩ y2).setCell ⟨g, 3, none⟩ y3).setCell ⟨g, 4, none⟩ y4).setCell ⟨g, 5, none⟩ y5).setCell ⟨g, 6, none⟩ y6).heap[g]? = some (.cells #[y0, y1, y2, y3, y4, y5, y6] t (0, 0)) :=
  heap_setCell_same _ g 6 #[y0, y1, y2, y3, y4, y5, x6] t y6 (heap_setCell_same _ g 5 #[y0, y1, y2, y3, y4, x5, x6] t y5 (heap_setCell_same _ g 4 #[y0, y1, y2, y3, x4, x5, x6] t y4 (heap_setCell_same _ g 3 #[y0, y1, y2, x3, x4, x5, x6] t y3 (heap_setCell_same _ g 2 #[y0, y1, x2, x3, x4, x5, x6] t y2 (heap_setCell_same _ g 1 #[y0, x1, x2, x3, x4, x5, x6] t y1 (heap_setCell_same _ g 0 #[x0, x1, x2, x3, x4, x5, x6] t y0 h))))))
theorem seven_bel {w0 w : World} {g : Nat} (h : Below g w0 w) (y0 y1 y2 y3 y4 y5 y6 : Value) : Below g w0 (((((((w.setCell ⟨g, 0, none⟩ y0).setCell ⟨g, 1, none⟩ y1).setCell ⟨g, 2, none⟩ y2).setCell ⟨g, 3, none⟩ y3).setCell ⟨g, 4, none⟩ y4).setCell ⟨g, 5, none⟩ y5).setCell ⟨g, 6, none⟩ y6) :=
  ((((((h.setCell (Nat.le_refl _) _).setCell (Nat.le_refl _) _).setCell (Nat.le_refl _) _).setCell (Nat.le_refl _) _).setCell (Nat.le_refl _) _).setCell (Nat.le_refl _) _).setCell (Nat.le_refl _) _
set_option maxHeartbeats 3200000 in
set_option maxRecDepth 1000000 in
theorem genus_any (ix gn n2 n3 cu ir : Int) (mi : Bool) (w : World) (h1 : 0 ≤ ix ∧ ix ≤ 100000) (h2 : 0 ≤ n2 ∧ n2 ≤ 100000) (h3 : 0 ≤ n3 ∧ n3 ≤ 100000) (h4 : 0 ≤ cu ∧ cu ≤ 100000) :
    Calls Try.prog 51 #[.agg #[.int .i64 ix, .int .i64 gn, .int .i64 n2, .int .i64 n3, .int .i64 cu, .int .i64 ir, .bool mi]] w fun e w' => e = .returned (.agg #[.int .i64 ix, .int .i64 ((12 + ix - 3 * n2 - 4 * n3 - 6 * cu).tdiv 12), .int .i64 n2, .int .i64 n3, .int .i64 cu, .int .i64 ir, .bool mi]) ∧ Below w.heap.size w w' := by
  obtain ⟨a1, a2⟩ := h1
  obtain ⟨b1, b2⟩ := h2
  obtain ⟨c1, c2⟩ := h3
  obtain ⟨d1, d2⟩ := h4
  go_enter Try.func51, Try.ntmps51
  go_wp2
  refine bodyPost_ret (v := .agg #[.int .i64 ix, .int .i64 ((12 + ix - 3 * n2 - 4 * n3 - 6 * cu).tdiv 12), .int .i64 n2, .int .i64 n3, .int .i64 cu, .int .i64 ir, .bool mi]) ?_ rfl ⟨rfl, below2 w _ _⟩
  simp [results, Try.results51, go_sem]
/-- The signature of Gamma0(n) and of Gamma1(n) by the formulas. -/
def g0V (n : Nat) : Int := (12 + (psV n : Int) - 3 * rtV 4 4 n - 4 * rtV 3 9 n - 6 * (cuV n : Int)).tdiv 12
theorem rtV_bd {A sq n : Nat} (hA : A = 3 ∨ A = 4) (n1 : 1 ≤ n) (n2 : n ≤ 120) : 0 ≤ rtV A sq n ∧ rtV A sq n ≤ 1000 := by
  have HC := art_of n1 n2
  unfold rtV
  split
  · omega
  · rcases hA with rfl | rfl
    · have := HC.b3 _ (Nat.le_refl _); rwa [List.take_length] at this
    · have := HC.b4 _ (Nat.le_refl _); rwa [List.take_length] at this
theorem psV_le {n : Nat} (n1 : 1 ≤ n) (n2 : n ≤ 120) : psV n ≤ 1000 := by
  have := (art_of n1 n2).bd _ (Nat.le_refl _)
  rwa [List.take_length] at this
theorem cuF_le (n : Nat) (n1 : 1 ≤ n) (n2 : n ≤ 120) : ∀ D x, (∀ d ∈ D, 1 ≤ d ∧ d ∣ n ∧ d ≤ 120) → cuF n D x ≤ x + 120 * D.length
  | [], x, _ => Nat.le_refl _
  | d :: D, x, h => by
    have h1 := cuF_le n n1 n2 D (x + phV (Nat.gcd d (n / d))) fun y hy => h y (by simp [hy])
    have h2 := phV_le (Nat.gcd d (n / d))
    obtain ⟨h3, _, h4⟩ := h d (by simp)
    have h5 : Nat.gcd d (n / d) ≤ d := Nat.gcd_le_left _ h3
    rw [cuF, List.length_cons]
    omega
theorem cuV_le {n : Nat} (n1 : 1 ≤ n) (n2 : n ≤ 120) : cuV n ≤ 20000 := by
  obtain ⟨h1, h2⟩ := dvN_bd n1 n2
  have := cuF_le n n1 n2 (dvN n) 0 h2
  unfold cuV
  omega
set_option maxHeartbeats 3200000 in
set_option maxRecDepth 1000000 in
theorem formula0_any (n : Nat) (w : World) (n1 : 1 ≤ n) (n2 : (n : Int) ≤ 120) :
    Calls Try.prog 23 #[.int .i64 (n : Int)] w fun e w' => e = .returned (.tuple #[.agg #[.int .i64 (psV n : Nat), .int .i64 (g0V n), .int .i64 (rtV 4 4 n), .int .i64 (rtV 3 9 n), .int .i64 (cuV n : Nat), .int .i64 0, .bool true], .int .i64 0]) ∧ Below w.heap.size w w' := by
  have HCu := Lib.hid (fun W => count0_any n W n1 n2)
  have HPs := Lib.hid (fun W => psi_any n W n1 n2)
  have HR4 := Lib.hid (fun W => roots_any 4 4 n W (.inr ⟨rfl, rfl⟩) n1 n2)
  have HR3 := Lib.hid (fun W => roots_any 3 9 n W (.inl ⟨rfl, rfl⟩) n1 n2)
  simp only [show -((3 : Nat) : Int) = -3 from rfl, show -((4 : Nat) : Int) = -4 from rfl, show ((9 : Nat) : Int) = 9 from rfl, show ((4 : Nat) : Int) = 4 from rfl] at HR4 HR3
  have HG : Hid (∀ W, Calls Try.prog 51 #[.agg #[.int .i64 (psV n : Nat), .int .i64 0, .int .i64 (rtV 4 4 n), .int .i64 (rtV 3 9 n), .int .i64 (cuV n : Nat), .int .i64 0, .bool true]] W fun e w' => e = .returned (.agg #[.int .i64 (psV n : Nat), .int .i64 (g0V n), .int .i64 (rtV 4 4 n), .int .i64 (rtV 3 9 n), .int .i64 (cuV n : Nat), .int .i64 0, .bool true]) ∧ Below W.heap.size W w') := fun W => by
    have a := psV_le n1 (by omega)
    have b := cuV_le n1 (by omega)
    have c := rtV_bd (A := 4) (sq := 4) (n := n) (.inr rfl) n1 (by omega)
    have d := rtV_bd (A := 3) (sq := 9) (n := n) (.inl rfl) n1 (by omega)
    exact genus_any (psV n : Nat) 0 (rtV 4 4 n) (rtV 3 9 n) (cuV n : Nat) 0 true W (by omega) (by omega) (by omega) (by omega)
  generalize psV n = ps at *
  generalize cuV n = cu at *
  generalize rtV 4 4 n = r4 at *
  generalize rtV 3 9 n = r3 at *
  generalize g0V n = gg at *
  have T0 : Hid ((w.alloc (.cells #[.int .i64 0, .int .i64 0, .int .i64 0, .int .i64 0, .int .i64 0, .int .i64 0, .bool false] 32)).heap[w.heap.size]? = some (.cells #[.int .i64 0, .int .i64 0, .int .i64 0, .int .i64 0, .int .i64 0, .int .i64 0, .bool false] 32 (0, 0))) := heap_alloc_new w _
  have HB0 : Hid (Below w.heap.size w (w.alloc (.cells #[.int .i64 0, .int .i64 0, .int .i64 0, .int .i64 0, .int .i64 0, .int .i64 0, .bool false] 32))) := below1 w _
  go_enter Try.func23, Try.ntmps23
  go_wp2_with (first
    | (go_at_call 50; ((with_reducible refine (HCu.out _).mono ?_); rintro e w1 ⟨rfl, hb⟩; have HB1 := Lib.hid (bel0 HB0.out hb); have T1 := Lib.hid (block_below T0.out hb); clear hb))
    | (go_at_call 36; ((with_reducible refine (HPs.out _).mono ?_); rintro e w2 ⟨rfl, hb⟩; have HB2 := Lib.hid (bel0 HB1.out hb); have T2 := Lib.hid (block_below T1.out hb); clear hb))
    | (go_at_call 52; first
       | ((with_reducible refine (HR4.out _).mono ?_); rintro e w3 ⟨rfl, hb⟩; have HB3 := Lib.hid (bel0 HB2.out hb); have T3 := Lib.hid (block_below T2.out hb); clear hb)
       | ((with_reducible refine (HR3.out _).mono ?_); rintro e w4 ⟨rfl, hb⟩; have HB4 := Lib.hid (bel0 HB3.out hb); have T4 := Lib.hid (block_below T3.out hb); clear hb))
    | (go_at_call 51; ((with_reducible refine (HG.out _).mono ?_); rintro e w5 ⟨rfl, hb⟩; have HB5 := Lib.hid (bel0 HB4.out hb); have T5 := Lib.hid (block_below T4.out hb); obtain ⟨⟨t0, t1, t2, t3, t4, t5, t6⟩, _⟩ := seven_of_block T5.out; clear hb))
    | fail)
  obtain ⟨⟨s0, s1, s2, s3, s4, s5, s6⟩, _⟩ := seven_of_block (seven_set T5.out (.int .i64 (ps : Int)) (.int .i64 gg) (.int .i64 r4) (.int .i64 r3) (.int .i64 (cu : Int)) (.int .i64 0) (.bool true))
  refine bodyPost_ret (v := .tuple #[.agg #[.int .i64 (ps : Int), .int .i64 gg, .int .i64 r4, .int .i64 r3, .int .i64 (cu : Int), .int .i64 0, .bool true], .int .i64 0]) ?_ rfl ⟨rfl, seven_bel HB5.out _ _ _ _ _ _ _⟩
  simp [results, Try.results23, go_sem, s0, s1, s2, s3, s4, s5, s6]
end Go.Proofs.Ytaofkfphkkfbnaa
