/- What the laws on three integers know between two statements. -/
import Derived.Test.YtbijjiadokgmoaaDoorAwakeB
import Derived.Test.YtbijjiadokgmoaaDoorLongB
namespace Go.Proofs.YtbijjiadokgmoaaDoor
open Go.RowKit

/-- From w to W nothing that was there has changed. -/
def Gr (w W : World) : Prop := Below w.heap.size w W
theorem Gr.refl (w : World) : Gr w w := Below.refl _ _
theorem Gr.drew {w W : World} (h : Gr w W) : Gr w W.drew := Below.drew h
theorem Gr.drewN {w W : World} (h : Gr w W) (n : Nat) : Gr w (W.drewN n) := below_drewN h n
theorem Gr.alloc {w W : World} (h : Gr w W) (o : Obj) : Gr w (W.alloc o) := Below.alloc h (Below.size h) o
theorem Gr.call {w W W' : World} (h : Gr w W) (hb : Below W.heap.size W W') : Gr w W' := Below.trans h (hb.mono (Below.size h))
theorem Gr.trans {w W W' : World} (h : Gr w W) (k : Gr W W') : Gr w W' := h.call k
theorem Gr.size {w W : World} (h : Gr w W) : w.heap.size ≤ W.heap.size := Below.size h
theorem Raw.gr {w W : World} {B l : Nat} {v : Value} {a : Int} (h : Raw w B v a l) (hg : Gr w W) (hB : B ≤ w.heap.size) : Raw W W.heap.size v a l := (h.below (Below.mono hg hB)).mono (Nat.le_trans hB hg.size) (Nat.le_refl _)
theorem IntIn.gr {w0 w W : World} {v : Value} {z : Int} {l : Nat} (h : IntIn w0 w v z) (hg : Gr w W) (hl : (digs z.natAbs).length ≤ l) : Raw W W.heap.size v z l := (h.raw hl).gr hg (Nat.le_refl _)

/-- Block g has two cells. -/
def TwoAt (W : World) (g : Nat) (x y : Value) : Prop := W.heap[g]? = some (.cells #[x, y] 24 (0, 0))
theorem TwoAt.gr {w W : World} {g : Nat} {x y : Value} (h : TwoAt w g x y) (hg : Gr w W) : TwoAt W g x y := (Below.block hg g (lt_of_block h)).trans h
theorem TwoAt.new (W : World) (x y : Value) : TwoAt (W.alloc (.cells #[x, y] 24)) W.heap.size x y := heap_alloc_new _ _
theorem TwoAt.keepNew {W w' : World} {x y : Value} (hb : Below (W.alloc (.cells #[x, y] 24)).heap.size (W.alloc (.cells #[x, y] 24)) w') : TwoAt w' W.heap.size x y := (TwoAt.new W x y).gr hb
theorem TwoAt.keepNewD {W w' : World} {x y : Value} (hb : Below ((W.alloc (.cells #[x, y] 24)).drew).heap.size ((W.alloc (.cells #[x, y] 24)).drew) w') : TwoAt w' W.heap.size x y := (show TwoAt ((W.alloc (.cells #[x, y] 24)).drew) W.heap.size x y from TwoAt.new W x y).gr hb
theorem TwoAt.keepBelow {W w' : World} {x y : Value} {o : Obj} (hb : Below ((W.alloc (.cells #[x, y] 24)).alloc o).heap.size ((W.alloc (.cells #[x, y] 24)).alloc o) w') : TwoAt w' W.heap.size x y := ((TwoAt.new W x y).gr (Gr.alloc (Gr.refl _) o)).gr hb
theorem TwoAt.keepBelowD {W w' : World} {x y : Value} {o : Obj} (hb : Below ((W.alloc (.cells #[x, y] 24)).alloc o).drew.heap.size ((W.alloc (.cells #[x, y] 24)).alloc o).drew w') : TwoAt w' W.heap.size x y := (show TwoAt ((W.alloc (.cells #[x, y] 24)).alloc o).drew W.heap.size x y from (TwoAt.new W x y).gr (Gr.drew (Gr.alloc (Gr.refl _) o))).gr hb
theorem TwoAt.keepNew2 {W w' : World} {x y : Value} {o : Obj} (hb : Below ((W.alloc o).alloc (.cells #[x, y] 24)).heap.size ((W.alloc o).alloc (.cells #[x, y] 24)) w') : TwoAt w' (W.heap.size + 1) x y := by
  have := TwoAt.keepNew hb
  rwa [World.size_alloc] at this
theorem TwoAt.keepNew2D {W w' : World} {x y : Value} {o : Obj} (hb : Below ((W.alloc o).alloc (.cells #[x, y] 24)).drew.heap.size ((W.alloc o).alloc (.cells #[x, y] 24)).drew w') : TwoAt w' (W.heap.size + 1) x y := by
  have := TwoAt.keepNewD hb
  rwa [World.size_alloc] at this
theorem TwoAt.lt {W : World} {g : Nat} {x y : Value} (h : TwoAt W g x y) : g < W.heap.size := lt_of_block h
theorem TwoAt.set2 {W : World} {g : Nat} {x y : Value} (h : TwoAt W g x y) (u v : Value) : TwoAt ((W.setCell ⟨g, 0, none⟩ u).setCell ⟨g, 1, none⟩ v) g u v := by
  have h1 := heap_setCell_same W g 0 _ _ u h
  have h2 := heap_setCell_same _ g 1 _ _ v h1
  exact h2
theorem TwoAt.far {W : World} {g g' : Nat} {x y : Value} (h : TwoAt W g x y) (hne : g ≠ g') (u v : Value) : TwoAt ((W.setCell ⟨g', 0, none⟩ u).setCell ⟨g', 1, none⟩ v) g x y := by
  have h1 := Below.heap_setCell W ⟨g', 0, none⟩ u g hne
  have h2 := Below.heap_setCell (W.setCell ⟨g', 0, none⟩ u) ⟨g', 1, none⟩ v g hne
  exact (h2.trans h1).trans h

/-- Three boxes that came first. -/
structure RSt (w W : World) (x1 y1 x2 y2 x3 y3 : Value) : Prop where
  gr : Gr w W
  one : TwoAt W w.heap.size x1 y1
  two : TwoAt W (w.heap.size + 1) x2 y2
  three : TwoAt W (w.heap.size + 2) x3 y3
section
variable {w W W' : World} {x1 y1 x2 y2 x3 y3 : Value}
theorem RSt.next (h : RSt w W x1 y1 x2 y2 x3 y3) (hg : Gr W W') : RSt w W' x1 y1 x2 y2 x3 y3 := ⟨h.gr.trans hg, h.one.gr hg, h.two.gr hg, h.three.gr hg⟩
theorem RSt.set2 (h : RSt w W x1 y1 x2 y2 x3 y3) {g : Nat} (hg : w.heap.size + 3 ≤ g) (u v : Value) : RSt w ((W.setCell ⟨g, 0, none⟩ u).setCell ⟨g, 1, none⟩ v) x1 y1 x2 y2 x3 y3 :=
  ⟨Below.setCell (Below.setCell h.gr (by show w.heap.size ≤ g; omega) _) (by show w.heap.size ≤ g; omega) _, h.one.far (by omega) _ _, h.two.far (by omega) _ _, h.three.far (by omega) _ _⟩
theorem RSt.size (h : RSt w W x1 y1 x2 y2 x3 y3) : w.heap.size + 3 ≤ W.heap.size := h.three.lt
theorem RSt.cells (h : RSt w W x1 y1 x2 y2 x3 y3) : W.cell? ⟨w.heap.size, 0, none⟩ = some x1 ∧ W.cell? ⟨w.heap.size, 1, none⟩ = some y1 ∧ W.cell? ⟨w.heap.size + 1, 0, none⟩ = some x2 ∧ W.cell? ⟨w.heap.size + 1, 1, none⟩ = some y2 ∧ W.cell? ⟨w.heap.size + 2, 0, none⟩ = some x3 ∧ W.cell? ⟨w.heap.size + 2, 1, none⟩ = some y3 := by
  obtain ⟨a1, a2, _, _⟩ := two_of_block h.one
  obtain ⟨b1, b2, _, _⟩ := two_of_block h.two
  obtain ⟨c1, c2, _, _⟩ := two_of_block h.three
  exact ⟨a1, a2, b1, b2, c1, c2⟩
end
/-- Block g holds the integer z, normalized. -/
def IntAt (w W : World) (g : Nat) (z : Int) : Prop := w.heap.size + 3 ≤ g ∧ ∃ A c, TwoAt W g (.bool (decide (z < 0))) (.slice A (digs z.natAbs).length c) ∧ IntIn w W (.agg #[.bool (decide (z < 0)), .slice A (digs z.natAbs).length c]) z
theorem IntAt.gr {w W W' : World} {g : Nat} {z : Int} (h : IntAt w W g z) (hg : Gr W W') : IntAt w W' g z := by
  obtain ⟨h0, A, c, h1, h2⟩ := h
  exact ⟨h0, A, c, h1.gr hg, h2.below hg⟩
/-- An integer whose digits lie elsewhere, behind the store into block g. -/
theorem IntIn.put {w w0 w2 W : World} {v : Value} {z : Int} {g : Nat} (h : IntIn w0 w2 v z) (hg : Gr w2 W) (hc : g < w0.heap.size ∨ w2.heap.size ≤ g) (hw : w.heap.size ≤ w0.heap.size) (x y : Value) : IntIn w ((W.setCell ⟨g, 0, none⟩ x).setCell ⟨g, 1, none⟩ y) v z := by
  obtain ⟨A, c, h1, h2, h3⟩ := h
  refine ⟨A, c, h1, ⟨h2.1, h2.2.1, h2.2.2.1, fun hn => ?_, h2.2.2.2.2⟩, fun a ha => by have := h3 a ha; omega⟩
  obtain ⟨b, o, e, hb, hcell⟩ := h2.2.2.2.1 hn
  have hb0 := h3 _ e
  have hbg : b ≠ g := by
    have : w0.heap.size ≤ b := hb0
    omega
  refine ⟨b, o, e, ?_, fun k hk => ?_⟩
  · have := hg.size
    have : W.heap.size = ((W.setCell ⟨g, 0, none⟩ x).setCell ⟨g, 1, none⟩ y).heap.size := by simp [World.setCell]
    omega
  · rw [World.cell?_setCell_other _ _ _ _ (fun e => hbg (by injection e with e1; exact e1.symm)), World.cell?_setCell_other _ _ _ _ (fun e => hbg (by injection e with e1; exact e1.symm))]
    exact (Below.cell hg (p := ⟨b, o + k, none⟩) hb).trans (hcell k hk)
theorem IntAt.of_put {w w0 w2 W : World} {A : Option Addr} {c g : Nat} {z : Int} {x y : Value} (h : IntIn w0 w2 (.agg #[.bool (decide (z < 0)), .slice A (digs z.natAbs).length c]) z) (hg : Gr w2 W) (hc : g < w0.heap.size ∨ w2.heap.size ≤ g) (hw : w.heap.size ≤ w0.heap.size) (h3 : w.heap.size + 3 ≤ g) (ht : TwoAt W g x y) : IntAt w ((W.setCell ⟨g, 0, none⟩ (.bool (decide (z < 0)))).setCell ⟨g, 1, none⟩ (.slice A (digs z.natAbs).length c)) g z :=
  ⟨h3, A, c, ht.set2 _ _, h.put hg hc hw _ _⟩
theorem IntAt.of_new {w w0 w2 W : World} {A : Option Addr} {c : Nat} {z : Int} (h : IntIn w0 w2 (.agg #[.bool (decide (z < 0)), .slice A (digs z.natAbs).length c]) z) (hg : Gr w2 W) (hw : w.heap.size ≤ w0.heap.size) (h3 : w.heap.size + 3 ≤ W.heap.size) : IntAt w (W.alloc (.cells #[.bool (decide (z < 0)), .slice A (digs z.natAbs).length c] 24)) W.heap.size z := by
  refine ⟨h3, A, c, TwoAt.new _ _ _, ?_⟩
  have h4 := IntIn.below h (w' := W.alloc (.cells #[.bool (decide (z < 0)), .slice A (digs z.natAbs).length c] 24)) (Gr.alloc hg _)
  obtain ⟨A', c', e1, e2, e3⟩ := h4
  exact ⟨A', c', e1, e2, fun a ha => Nat.le_trans hw (e3 a ha)⟩
theorem abs_add_lt {x y : Int} {l : Nat} (hx : x.natAbs < 4294967296 ^ l) (hy : y.natAbs < 4294967296 ^ l) : (x + y).natAbs < 4294967296 ^ (l + 1) := by
  rw [Nat.pow_succ]; omega
theorem abs_mul_lt {x y : Int} {k l : Nat} (hx : x.natAbs < 4294967296 ^ k) (hy : y.natAbs < 4294967296 ^ l) : (x * y).natAbs < 4294967296 ^ (k + l) := by
  rw [Int.natAbs_mul, Nat.pow_add]
  exact Nat.mul_lt_mul'' hx hy
/-- An elder integer, behind the store into a younger block. -/
theorem IntAt.far {w wc W : World} {g g7 : Nat} {z : Int} (h : IntAt w wc g7 z) (hg : Gr wc W) (hc : wc.heap.size ≤ g) (x y : Value) : IntAt w ((W.setCell ⟨g, 0, none⟩ x).setCell ⟨g, 1, none⟩ y) g7 z := by
  obtain ⟨h0, A, c, h1, h2⟩ := h
  exact ⟨h0, A, c, (h1.gr hg).far (by have := h1.lt; omega) _ _, h2.put hg (.inr hc) (Nat.le_refl _) _ _⟩
/-- What a walk reads of a block with two cells. -/
def ReadsTwo (W : World) (g : Nat) (x y : Value) : Prop := W.cell? ⟨g, 0, none⟩ = some x ∧ W.cell? ⟨g, 1, none⟩ = some y ∧ W.frozen? ⟨g, 0, none⟩ = false ∧ W.frozen? ⟨g, 1, none⟩ = false
theorem TwoAt.reads {W : World} {g : Nat} {x y : Value} (h : TwoAt W g x y) : ReadsTwo W g x y := two_of_block h
theorem TwoAt.one0 {W : World} {g : Nat} {x y : Value} (h : TwoAt W g x y) : (W.setCell ⟨g, 0, none⟩ y).cell? ⟨g, 1, none⟩ = some y := by
  rw [World.cell?_setCell_other _ _ _ _ (fun e => by injection e with _ e2; cases e2)]
  exact h.reads.2.1
/-- Two stores elsewhere. -/
theorem IntIn.put2 {w w0 w2 W : World} {v : Value} {z : Int} {g g' : Nat} (h : IntIn w0 w2 v z) (hg : Gr w2 W) (hc : g < w0.heap.size ∨ w2.heap.size ≤ g) (hc' : g' < w0.heap.size ∨ w2.heap.size ≤ g') (hw : w.heap.size ≤ w0.heap.size) (x y x' y' : Value) : IntIn w ((((W.setCell ⟨g, 0, none⟩ x).setCell ⟨g, 1, none⟩ y).setCell ⟨g', 0, none⟩ x').setCell ⟨g', 1, none⟩ y') v z := by
  obtain ⟨A, c, h1, h2, h3⟩ := h
  refine ⟨A, c, h1, ⟨h2.1, h2.2.1, h2.2.2.1, fun hn => ?_, h2.2.2.2.2⟩, fun a ha => by have := h3 a ha; omega⟩
  obtain ⟨b, o, e, hb, hcell⟩ := h2.2.2.2.1 hn
  have hb0 : w0.heap.size ≤ b := h3 _ e
  have hbg : b ≠ g := by omega
  have hbg' : b ≠ g' := by omega
  refine ⟨b, o, e, ?_, fun k hk => ?_⟩
  · have := hg.size
    have : W.heap.size = ((((W.setCell ⟨g, 0, none⟩ x).setCell ⟨g, 1, none⟩ y).setCell ⟨g', 0, none⟩ x').setCell ⟨g', 1, none⟩ y').heap.size := by simp [World.setCell]
    omega
  · rw [World.cell?_setCell_other _ _ _ _ (fun e => hbg' (by injection e with e1; exact e1.symm)), World.cell?_setCell_other _ _ _ _ (fun e => hbg' (by injection e with e1; exact e1.symm)), World.cell?_setCell_other _ _ _ _ (fun e => hbg (by injection e with e1; exact e1.symm)), World.cell?_setCell_other _ _ _ _ (fun e => hbg (by injection e with e1; exact e1.symm))]
    exact (Below.cell hg (p := ⟨b, o + k, none⟩) hb).trans (hcell k hk)
section
variable {w w0 w2 W : World} {A : Option Addr} {c g g' : Nat} {z : Int} {x y x' y' : Value}
theorem IntAt.two_a (h : IntIn w0 w2 (.agg #[.bool (decide (z < 0)), .slice A (digs z.natAbs).length c]) z) (hg : Gr w2 W) (ht : TwoAt W g x y) (hw : w.heap.size ≤ w0.heap.size) (h3 : w.heap.size + 3 ≤ g) (hc : g < w0.heap.size ∨ w2.heap.size ≤ g) (hc' : g' < w0.heap.size ∨ w2.heap.size ≤ g') (hne : g ≠ g') :
    IntAt w ((((W.setCell ⟨g, 0, none⟩ (.bool (decide (z < 0)))).setCell ⟨g, 1, none⟩ (.slice A (digs z.natAbs).length c)).setCell ⟨g', 0, none⟩ x').setCell ⟨g', 1, none⟩ y') g z :=
  ⟨h3, A, c, (ht.set2 _ _).far hne _ _, h.put2 hg hc hc' hw _ _ _ _⟩
theorem IntAt.two_b (h : IntIn w0 w2 (.agg #[.bool (decide (z < 0)), .slice A (digs z.natAbs).length c]) z) (hg : Gr w2 W) (ht : TwoAt W g' x y) (hw : w.heap.size ≤ w0.heap.size) (h3 : w.heap.size + 3 ≤ g') (hc : g < w0.heap.size ∨ w2.heap.size ≤ g) (hc' : g' < w0.heap.size ∨ w2.heap.size ≤ g') (hne : g' ≠ g) :
    IntAt w ((((W.setCell ⟨g, 0, none⟩ x').setCell ⟨g, 1, none⟩ y').setCell ⟨g', 0, none⟩ (.bool (decide (z < 0)))).setCell ⟨g', 1, none⟩ (.slice A (digs z.natAbs).length c)) g' z :=
  ⟨h3, A, c, (ht.far hne _ _).set2 _ _, h.put2 hg hc hc' hw _ _ _ _⟩
theorem IntAt.new_set (h : IntIn w0 w2 (.agg #[.bool (decide (z < 0)), .slice A (digs z.natAbs).length c]) z) (hg : Gr w2 W) (hw : w.heap.size ≤ w0.heap.size) (h3 : w.heap.size + 3 ≤ W.heap.size) (hc : g < w0.heap.size ∨ w2.heap.size ≤ g) (hne : W.heap.size ≠ g) :
    IntAt w (((W.alloc (.cells #[.bool (decide (z < 0)), .slice A (digs z.natAbs).length c] 24)).setCell ⟨g, 0, none⟩ x').setCell ⟨g, 1, none⟩ y') W.heap.size z :=
  ⟨h3, A, c, (TwoAt.new _ _ _).far hne _ _, h.put (Gr.alloc hg _) hc hw _ _⟩
theorem IntAt.new2 {o : Obj} (h : IntIn w0 w2 (.agg #[.bool (decide (z < 0)), .slice A (digs z.natAbs).length c]) z) (hg : Gr w2 W) (hw : w.heap.size ≤ w0.heap.size) (h3 : w.heap.size + 3 ≤ W.heap.size) :
    IntAt w ((W.alloc o).alloc (.cells #[.bool (decide (z < 0)), .slice A (digs z.natAbs).length c] 24)) (W.heap.size + 1) z := by
  have := IntAt.of_new (W := W.alloc o) h (Gr.alloc hg o) hw (by rw [World.size_alloc]; omega)
  rwa [World.size_alloc] at this
theorem IntAt.new1 {o : Obj} (h : IntIn w0 w2 (.agg #[.bool (decide (z < 0)), .slice A (digs z.natAbs).length c]) z) (hg : Gr w2 W) (hw : w.heap.size ≤ w0.heap.size) (h3 : w.heap.size + 3 ≤ W.heap.size) :
    IntAt w ((W.alloc (.cells #[.bool (decide (z < 0)), .slice A (digs z.natAbs).length c] 24)).alloc o) W.heap.size z := (IntAt.of_new h hg hw h3).gr (Gr.alloc (Gr.refl _) o)
end
theorem Gr.set2 {w W : World} (h : Gr w W) {g : Nat} (hg : w.heap.size ≤ g) (x y : Value) : Gr w ((W.setCell ⟨g, 0, none⟩ x).setCell ⟨g, 1, none⟩ y) := Below.setCell (Below.setCell h (by show w.heap.size ≤ g; exact hg) _) (by show w.heap.size ≤ g; exact hg) _
theorem TwoAt.new1 (W : World) (x y : Value) (o : Obj) : TwoAt ((W.alloc (.cells #[x, y] 24)).alloc o) W.heap.size x y := (TwoAt.new W x y).gr (Gr.alloc (Gr.refl _) o)
theorem cells6 {w' : World} {b1 b2 b3 : Nat} {x1 y1 x2 y2 x3 y3 : Value} (h : w'.cell? ⟨b1, 0, none⟩ = some x1 ∧ w'.cell? ⟨b1, 1, none⟩ = some y1 ∧ w'.cell? ⟨b2, 0, none⟩ = some x2 ∧ w'.cell? ⟨b2, 1, none⟩ = some y2 ∧ w'.cell? ⟨b3, 0, none⟩ = some x3 ∧ w'.cell? ⟨b3, 1, none⟩ = some y3)
    {g7 g8 g9 g10 : Nat} {p7 q7 p8 q8 p9 q9 p10 q10 : Value} (h7 : ReadsTwo w' g7 p7 q7) (h8 : ReadsTwo w' g8 p8 q8) (h9 : ReadsTwo w' g9 p9 q9) (h10 : ReadsTwo w' g10 p10 q10) :
    w'.cell? ⟨b1, 0, none⟩ = some x1 ∧ w'.cell? ⟨b1, 1, none⟩ = some y1 ∧ w'.cell? ⟨b2, 0, none⟩ = some x2 ∧ w'.cell? ⟨b2, 1, none⟩ = some y2 ∧ w'.cell? ⟨b3, 0, none⟩ = some x3 ∧ w'.cell? ⟨b3, 1, none⟩ = some y3 ∧ w'.cell? ⟨g7, 0, none⟩ = some p7 ∧ w'.cell? ⟨g7, 1, none⟩ = some q7 ∧ w'.cell? ⟨g8, 0, none⟩ = some p8 ∧ w'.cell? ⟨g8, 1, none⟩ = some q8 ∧ w'.cell? ⟨g9, 0, none⟩ = some p9 ∧ w'.cell? ⟨g9, 1, none⟩ = some q9 ∧ w'.cell? ⟨g10, 0, none⟩ = some p10 ∧ w'.cell? ⟨g10, 1, none⟩ = some q10 :=
  ⟨h.1, h.2.1, h.2.2.1, h.2.2.2.1, h.2.2.2.2.1, h.2.2.2.2.2, h7.1, h7.2.1, h8.1, h8.2.1, h9.1, h9.2.1, h10.1, h10.2.1⟩
theorem same_yes {w1 w2 w : World} {v1 v2 : Value} {z1 z2 : Int} {l : Nat} (h1 : IntIn w1 w v1 z1) (h2 : IntIn w2 w v2 z2) (he : z1 = z2) (hl : (digs z1.natAbs).length ≤ l) (hb : l ≤ 1000000 := by omega) :
    Calls Tryd.prog 18 #[v1, v2] w fun e w' => e = .returned (.bool true) ∧ Below w.heap.size w w' := by
  have := same_int h1 h2 (by omega)
  rwa [decide_eq_true he] at this
theorem cmp_is {w : World} {l1 l2 : Nat} {v1 v2 : Value} {a b r : Int} (he : cmpZ a b = r) (h1 : Raw w w.heap.size v1 a l1) (h2 : Raw w w.heap.size v2 b l2) (b1 : l1 ≤ 1000000 := by omega) (b2 : l2 ≤ 1000000 := by omega) : Calls Tryd.prog 36 #[v1, v2] w fun e w' => e = .returned (.int .i64 r) ∧ Below w.heap.size w w' := by
  rw [← he]; exact cmp_raw h1 h2 (Nat.le_refl _) b1 b2
theorem sign_is {w : World} {l1 : Nat} {v1 : Value} {a r : Int} (he : a.sign = r) (h1 : Raw w w.heap.size v1 a l1) (b1 : l1 ≤ 1000000 := by omega) : Calls Tryd.prog 22 #[v1] w fun e w' => e = .returned (.int .i64 r) ∧ Below w.heap.size w w' := by
  rw [← he]; exact sign_raw h1 (Nat.le_refl _) b1
end Go.Proofs.YtbijjiadokgmoaaDoor
