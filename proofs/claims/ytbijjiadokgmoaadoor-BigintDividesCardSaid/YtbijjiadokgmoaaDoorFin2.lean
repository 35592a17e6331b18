/- Two integers made in one line: what the world holds behind it, in whatever order their blocks were made. -/
import Derived.Test.YtbijjiadokgmoaaDoorRingSt
namespace Go.Proofs.YtbijjiadokgmoaaDoor
open Go.RowKit

/-- The digits of z lie in a block from lo on and below hi. -/
structure IntIv (lo hi : Nat) (V : World) (A : Option Addr) (c : Nat) (z : Int) : Prop where
  rd : Rd V hi A c (digs z.natAbs)
  top : hi ≤ V.heap.size
  low : ∀ a, A = some a → lo ≤ a.block
section
variable {lo hi g c : Nat} {V W : World} {A : Option Addr} {z : Int}
theorem IntIv.of {w0 : World} (h : IntIn w0 V (.agg #[.bool (decide (z < 0)), .slice A (digs z.natAbs).length c]) z) : IntIv w0.heap.size V.heap.size V A c z := by
  obtain ⟨A', c', e, h1, h2⟩ := h
  injection e with e
  have e1 := congrArg (fun a : Array Value => a[1]?) e
  simp at e1
  obtain ⟨rfl, rfl⟩ := e1
  exact ⟨h1, Nat.le_refl _, h2⟩
theorem IntIv.of_d {w0 : World} (h : IntIn w0.drew V (.agg #[.bool (decide (z < 0)), .slice A (digs z.natAbs).length c]) z) : IntIv w0.heap.size V.heap.size V A c z := IntIv.of h
theorem IntIv.of_ad {w0 : World} {o : Obj} (h : IntIn (w0.alloc o).drew V (.agg #[.bool (decide (z < 0)), .slice A (digs z.natAbs).length c]) z) : IntIv (w0.heap.size + 1) V.heap.size V A c z := by
  have := IntIv.of h
  rwa [show (w0.alloc o).drew.heap.size = w0.heap.size + 1 from World.size_alloc _ _] at this
theorem IntIv.of_aad {w0 : World} {o o' : Obj} (h : IntIn ((w0.alloc o).alloc o').drew V (.agg #[.bool (decide (z < 0)), .slice A (digs z.natAbs).length c]) z) : IntIv (w0.heap.size + 2) V.heap.size V A c z := by
  have := IntIv.of h
  rwa [show ((w0.alloc o).alloc o').drew.heap.size = w0.heap.size + 2 by show ((w0.alloc o).alloc o').heap.size = _; rw [World.size_alloc, World.size_alloc]] at this
theorem IntIv.of_a {w0 : World} {o : Obj} (h : IntIn (w0.alloc o) V (.agg #[.bool (decide (z < 0)), .slice A (digs z.natAbs).length c]) z) : IntIv (w0.heap.size + 1) V.heap.size V A c z := by
  have := IntIv.of h
  rwa [World.size_alloc] at this
theorem IntIv.of_aa {w0 : World} {o o' : Obj} (h : IntIn ((w0.alloc o).alloc o') V (.agg #[.bool (decide (z < 0)), .slice A (digs z.natAbs).length c]) z) : IntIv (w0.heap.size + 2) V.heap.size V A c z := by
  have := IntIv.of h
  rwa [World.size_alloc, World.size_alloc] at this
theorem IntIv.gr (h : IntIv lo hi V A c z) (hg : Gr V W) : IntIv lo hi W A c z := ⟨h.rd.below (Below.mono hg h.top), Nat.le_trans h.top hg.size, h.low⟩
theorem IntIv.set2 (h : IntIv lo hi V A c z) (hg : g < lo ∨ hi ≤ g) (x y : Value) : IntIv lo hi ((V.setCell ⟨g, 0, none⟩ x).setCell ⟨g, 1, none⟩ y) A c z := by
  obtain ⟨h2, h1, h3⟩ := h
  refine ⟨⟨h2.1, h2.2.1, h2.2.2.1, fun hn => ?_, h2.2.2.2.2⟩, ?_, h3⟩
  · obtain ⟨b, o, e, hb, hcell⟩ := h2.2.2.2.1 hn
    have hb0 : lo ≤ b := h3 _ e
    have hbg : b ≠ g := by omega
    refine ⟨b, o, e, hb, fun k hk => ?_⟩
    rw [World.cell?_setCell_other _ _ _ _ (fun e => hbg (by injection e with e1; exact e1.symm)), World.cell?_setCell_other _ _ _ _ (fun e => hbg (by injection e with e1; exact e1.symm))]
    exact hcell k hk
  · have : ((V.setCell ⟨g, 0, none⟩ x).setCell ⟨g, 1, none⟩ y).heap.size = V.heap.size := by simp [World.setCell]
    omega
theorem IntIv.at_ {w : World} (h : IntIv lo hi V A c z) (ht : TwoAt V g (.bool (decide (z < 0))) (.slice A (digs z.natAbs).length c)) (hw : w.heap.size ≤ lo) (h3 : w.heap.size + 3 ≤ g) : IntAt w V g z :=
  ⟨h3, A, c, ht, A, c, rfl, h.rd.mono h.top, fun a ha => Nat.le_trans hw (h.low a ha)⟩
end
section
variable {w wd V : World} {x1 y1 x2 y2 x3 y3 p q p' q' : Value} {A A' : Option Addr} {c c' gx gy lx hx ly hy : Nat} {x y : Int} {o : Obj}
/-- What is known behind a line that makes two integers: the boxes, the elder integers, the two. -/
structure Both (w wd W : World) (x1 y1 x2 y2 x3 y3 : Value) (gx gy : Nat) (x y : Int) : Prop where
  st : RSt w W x1 y1 x2 y2 x3 y3
  old : ∀ g z, IntAt w wd g z → IntAt w W g z
  fst : IntAt w W gx x
  snd : IntAt w W gy y
  lx : wd.heap.size ≤ gx
  ly : wd.heap.size ≤ gy
/-- Both blocks were there. -/
theorem Both.both (hS : RSt w V x1 y1 x2 y2 x3 y3) (hd : Gr wd V) (ix : IntIv lx hx V A c x) (iy : IntIv ly hy V A' c' y) (px : TwoAt V gx p q) (py : TwoAt V gy p' q') (hne : gx ≠ gy) (hwd : w.heap.size + 3 ≤ wd.heap.size) (sx : wd.heap.size ≤ gx) (sy : wd.heap.size ≤ gy)
    (ux : w.heap.size ≤ lx) (uy : w.heap.size ≤ ly) (xx : gx < lx ∨ hx ≤ gx) (xy : gy < lx ∨ hx ≤ gy) (yx : gx < ly ∨ hy ≤ gx) (yy : gy < ly ∨ hy ≤ gy) :
    Both w wd ((((V.setCell ⟨gx, 0, none⟩ (.bool (decide (x < 0)))).setCell ⟨gx, 1, none⟩ (.slice A (digs x.natAbs).length c)).setCell ⟨gy, 0, none⟩ (.bool (decide (y < 0)))).setCell ⟨gy, 1, none⟩ (.slice A' (digs y.natAbs).length c')) x1 y1 x2 y2 x3 y3 gx gy x y :=
  ⟨(hS.set2 (Nat.le_trans hwd sx) _ _).set2 (Nat.le_trans hwd sy) _ _,
   fun _ _ h => h.far (hd.set2 sx _ _) sy _ _,
   ((ix.set2 xx _ _).set2 xy _ _).at_ ((px.set2 _ _).far hne _ _) ux (Nat.le_trans hwd sx),
   ((iy.set2 yx _ _).set2 yy _ _).at_ ((py.far (Ne.symm hne) _ _).set2 _ _) uy (Nat.le_trans hwd sy), sx, sy⟩
/-- The first block was there, the second is made behind the calls. -/
theorem Both.late (hS : RSt w V x1 y1 x2 y2 x3 y3) (hd : Gr wd V) (ix : IntIv lx hx V A c x) (iy : IntIv ly hy V A' c' y) (px : TwoAt V gx p q) (hwd : w.heap.size + 3 ≤ wd.heap.size) (sx : wd.heap.size ≤ gx)
    (ux : w.heap.size ≤ lx) (uy : w.heap.size ≤ ly) (xx : gx < lx ∨ hx ≤ gx) (yx : gx < ly ∨ hy ≤ gx) :
    Both w wd (((((V.alloc (.cells #[p', q'] 24)).setCell ⟨gx, 0, none⟩ (.bool (decide (x < 0)))).setCell ⟨gx, 1, none⟩ (.slice A (digs x.natAbs).length c)).setCell ⟨V.heap.size, 0, none⟩ (.bool (decide (y < 0)))).setCell ⟨V.heap.size, 1, none⟩ (.slice A' (digs y.natAbs).length c')) x1 y1 x2 y2 x3 y3 gx V.heap.size x y :=
  have ga := (Gr.refl V).alloc (.cells #[p', q'] 24)
  Both.both (hS.next ga) (hd.alloc _) (ix.gr ga) (iy.gr ga) (px.gr ga) (TwoAt.new _ _ _) (Nat.ne_of_lt px.lt) hwd sx hd.size ux uy xx (.inr ix.top) yx (.inr iy.top)
/-- The second block was there, the first is made behind the calls. -/
theorem Both.early (hS : RSt w V x1 y1 x2 y2 x3 y3) (hd : Gr wd V) (ix : IntIv lx hx V A c x) (iy : IntIv ly hy V A' c' y) (py : TwoAt V gy p q) (hwd : w.heap.size + 3 ≤ wd.heap.size) (sy : wd.heap.size ≤ gy)
    (ux : w.heap.size ≤ lx) (uy : w.heap.size ≤ ly) (xy : gy < lx ∨ hx ≤ gy) (yy : gy < ly ∨ hy ≤ gy) :
    Both w wd (((V.alloc (.cells #[.bool (decide (x < 0)), .slice A (digs x.natAbs).length c] 24)).setCell ⟨gy, 0, none⟩ (.bool (decide (y < 0)))).setCell ⟨gy, 1, none⟩ (.slice A' (digs y.natAbs).length c')) x1 y1 x2 y2 x3 y3 V.heap.size gy x y :=
  have ga := (Gr.refl V).alloc (.cells #[.bool (decide (x < 0)), .slice A (digs x.natAbs).length c] 24)
  ⟨(hS.next ga).set2 (Nat.le_trans hwd sy) _ _,
   fun _ _ h => h.far (hd.alloc _) sy _ _,
   ((ix.gr ga).set2 xy _ _).at_ ((TwoAt.new _ _ _).far (Nat.ne_of_gt py.lt) _ _) ux (Nat.le_trans hwd hd.size),
   ((iy.gr ga).set2 yy _ _).at_ ((py.gr ga).set2 _ _) uy (Nat.le_trans hwd sy), hd.size, sy⟩
/-- Both blocks are made behind the calls. -/
theorem Both.new (hS : RSt w V x1 y1 x2 y2 x3 y3) (hd : Gr wd V) (ix : IntIv lx hx V A c x) (iy : IntIv ly hy V A' c' y) (hwd : w.heap.size + 3 ≤ wd.heap.size) (ux : w.heap.size ≤ lx) (uy : w.heap.size ≤ ly) :
    Both w wd ((V.alloc (.cells #[.bool (decide (x < 0)), .slice A (digs x.natAbs).length c] 24)).alloc (.cells #[.bool (decide (y < 0)), .slice A' (digs y.natAbs).length c'] 24)) x1 y1 x2 y2 x3 y3 V.heap.size (V.heap.size + 1) x y :=
  have ga := ((Gr.refl V).alloc (.cells #[.bool (decide (x < 0)), .slice A (digs x.natAbs).length c] 24)).alloc (.cells #[.bool (decide (y < 0)), .slice A' (digs y.natAbs).length c'] 24)
  ⟨hS.next ga, fun _ _ h => h.gr (hd.trans ga), (ix.gr ga).at_ (TwoAt.new1 _ _ _ _) ux (Nat.le_trans hwd hd.size), (iy.gr ga).at_ (by have := TwoAt.new (V.alloc (.cells #[.bool (decide (x < 0)), .slice A (digs x.natAbs).length c] 24)) (.bool (decide (y < 0))) (.slice A' (digs y.natAbs).length c'); rwa [World.size_alloc] at this) uy (Nat.le_trans hwd (Nat.le_succ_of_le hd.size)), hd.size, Nat.le_succ_of_le hd.size⟩
theorem Both.wen (hS : RSt w V x1 y1 x2 y2 x3 y3) (hd : Gr wd V) (ix : IntIv lx hx V A c x) (iy : IntIv ly hy V A' c' y) (hwd : w.heap.size + 3 ≤ wd.heap.size) (ux : w.heap.size ≤ lx) (uy : w.heap.size ≤ ly) :
    Both w wd ((V.alloc (.cells #[.bool (decide (y < 0)), .slice A' (digs y.natAbs).length c'] 24)).alloc (.cells #[.bool (decide (x < 0)), .slice A (digs x.natAbs).length c] 24)) x1 y1 x2 y2 x3 y3 (V.heap.size + 1) V.heap.size x y :=
  have h := Both.new hS hd iy ix hwd uy ux
  ⟨h.st, h.old, h.snd, h.fst, h.ly, h.lx⟩
/-- As the walk asks it. -/
theorem Both.fin {W : World} (h : Both w wd W x1 y1 x2 y2 x3 y3 gx gy x y) : ∃ g5 g6, Value.pointer (some ⟨gx, 0, none⟩) = Value.pointer (some ⟨g5, 0, none⟩) ∧ Value.pointer (some ⟨gy, 0, none⟩) = Value.pointer (some ⟨g6, 0, none⟩) ∧ Hid (RSt w W x1 y1 x2 y2 x3 y3) ∧ Hid (IntAt w W g5 x) ∧ Hid (IntAt w W g6 y) :=
  ⟨gx, gy, rfl, rfl, h.st, h.fst, h.snd⟩
theorem Both.fin4 {W : World} {g7 g8 : Nat} {z7 z8 : Int} (h7 : IntAt w wd g7 z7) (h8 : IntAt w wd g8 z8) (h : Both w wd W x1 y1 x2 y2 x3 y3 gx gy x y) : ∃ g9 g10, Value.pointer (some ⟨gx, 0, none⟩) = Value.pointer (some ⟨g9, 0, none⟩) ∧ Value.pointer (some ⟨gy, 0, none⟩) = Value.pointer (some ⟨g10, 0, none⟩) ∧ Hid (RSt w W x1 y1 x2 y2 x3 y3) ∧ Hid (IntAt w W g7 z7) ∧ Hid (IntAt w W g8 z8) ∧ Hid (IntAt w W g9 x) ∧ Hid (IntAt w W g10 y) :=
  ⟨gx, gy, rfl, rfl, h.st, h.old _ _ h7, h.old _ _ h8, h.fst, h.snd⟩
end
end Go.Proofs.YtbijjiadokgmoaaDoor
