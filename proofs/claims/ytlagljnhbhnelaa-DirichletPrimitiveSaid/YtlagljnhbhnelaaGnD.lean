/- The closure of generators: the walk. -/
import Derived.Test.YtlagljnhbhnelaaGnC
namespace Go.Proofs.Ytlagljnhbhnelaa
open Go.RowKit
set_option linter.unusedVariables false
set_option linter.unusedSimpArgs false

theorem Try.infoGen : (Try.prog.info? 73).map (fun i => (i.zero, i.size, i.bytes)) = some (some (.agg #[.int .i64 0, .int .i64 0]), 2, 16) := by kernel_rfl
theorem four_cellsD {w : World} {b : Nat} {x y z u : Value} {t : TypeId} (h : w.heap[b]? = some (.cells #[x, y, z, u] t (0, 0))) : w.cell? ⟨b, 0, none⟩ = some x ∧ w.cell? ⟨b, 1, none⟩ = some y ∧ w.cell? ⟨b, 2, none⟩ = some z ∧ w.cell? ⟨b, 3, none⟩ = some u :=
  ⟨by rw [cell_of_row w b 0 _ t _ h]; rfl, by rw [cell_of_row w b 1 _ t _ h]; rfl, by rw [cell_of_row w b 2 _ t _ h]; rfl, by rw [cell_of_row w b 3 _ t _ h]; rfl⟩
/-- Crt of the two congruences. -/
theorem crt2_any {n q : Nat} {a : Int} (h : CrF n q a) (g : Nat) (w : World) (hg : w.heap[g]? = some (.cells #[.int .i64 a, .int .i64 (q : Int), .int .i64 1, .int .i64 ((n / q : Nat) : Int)] 93 (0, 0))) :
    Calls Try.prog 69 #[.slice (some ⟨g, 0, none⟩) 2 2] w fun e w' => ∃ m : Int, e = .returned (.tuple #[.agg #[.int .i64 (crV n q a : Nat), .int .i64 m], .int .i64 0]) ∧ Below w.heap.size w w' := by
  obtain ⟨c0, c1, c2, c3⟩ := four_cellsD hg
  have := crt_some [(a, (q : Int)), (1, ((n / q : Nat) : Int))] ⟨g, 0, none⟩ 2 w (by simp) (by omega) (fun _ => lt_of_block hg) (fun k hk => by
    have : k = 0 ∨ k = 1 := by simp at hk; omega
    rcases this with rfl | rfl
    · exact ⟨by rw [addr_add]; exact c0, by rw [addr_add]; exact c1⟩
    · exact ⟨by rw [addr_add]; exact c2, by rw [addr_add]; exact c3⟩)
  refine this.mono fun e w' ⟨r, m, e0, he, hc, hb⟩ => ?_
  obtain ⟨rfl, rfl⟩ := h.crt hc
  exact ⟨m, he, hb⟩
theorem own_keepD {w w' : World} {base n size : Nat} {e : TypeId} {v : Value} {xs : List Value} (h : w.ownsRow base e size v n xs) (hk : ∀ g, v.ownBlock = some g → w'.heap[g]? = w.heap[g]?) : w'.ownsRow base e size v n xs := by
  obtain ⟨h1, h2⟩ := h
  refine ⟨h1, ?_⟩
  rcases h2 with h2 | ⟨g, cap, cur, rfl, hb, hg, h3⟩
  · exact .inl h2
  · exact .inr ⟨g, cap, cur, rfl, hb, (hk g rfl).trans hg, h3⟩
/-- The world within generators: the modulus's box, the list's variable, the list. -/
structure GW (B : Nat) (w0 : World) (v : Value) (L : List (Nat × Nat)) (n : Nat) (w : World) : Prop where
  nb : w.heap[B]? = some (.cells #[.int .i64 (n : Int)] 3 (0, 0))
  list : w.heap[B + 1]? = some (.cells #[v] 70 (0, 0))
  own : w.ownsRow (B + 2) 73 2 v L.length (flat L)
  below : Below B w0 w
theorem GW.size {B : Nat} {w0 w : World} {v : Value} {L : List (Nat × Nat)} {n : Nat} (h : GW B w0 v L n w) : B + 2 ≤ w.heap.size := by
  have := lt_of_block h.list; omega
theorem GW.on {B : Nat} {w0 w w1 : World} {v : Value} {L : List (Nat × Nat)} {n : Nat} (h : GW B w0 v L n w) (hb : Below w.heap.size w w1) : GW B w0 v L n w1 :=
  ⟨block_below h.nb hb, block_below h.list hb, own_keepD h.own (fun g hg => (hb.block g (h.own.lt g hg).2)), h.below.trans (hb.mono (by have := h.size; omega))⟩
theorem GW.ne {B : Nat} {w0 w : World} {v : Value} {L : List (Nat × Nat)} {n : Nat} (h : GW B w0 v L n w) {j : Nat} (hj : j < B + 2) : some j ≠ v.ownBlock := fun e => by
  have := (h.own.lt j e.symm).1; omega
/-- A block of another type is not the list's. -/
theorem own_type {w : World} {base : Nat} {e : TypeId} {size : Nat} {v : Value} {n : Nat} {xs : List Value} (h : w.ownsRow base e size v n xs) {g : Nat} {cs : Array Value} {t : TypeId} (ht : t ≠ e) (hg : w.heap[g]? = some (.cells cs t (0, 0))) : some g ≠ v.ownBlock := fun he => by
  rcases h.2 with ⟨rfl, _⟩ | ⟨g', cap, cur, rfl, h2⟩
  · cases he
  · have e1 : g = g' := by simpa [Value.ownBlock] using he
    subst e1
    rw [h2.2.1] at hg
    cases hg
    exact ht rfl
set_option maxHeartbeats 3200000 in
set_option maxRecDepth 1000000 in
theorem GW.app {B : Nat} {w0 w w1 : World} {v v' : Value} {L : List (Nat × Nat)} {n d k : Nat} {o : Obj} (h : GW B w0 v L n w)
    (hown : w1.ownsRow (B + 2) 73 2 v' (L.length + 1) (flat L ++ [.int .i64 (d : Int), .int .i64 (k : Int)])) (hg : (w.alloc o).grownBy w1 v.ownBlock) :
    w1.heap[B + 1]? = some (.cells #[v] 70 (0, 0)) ∧ GW B w0 v' (L ++ [(d, k)]) n (w1.setCell ⟨B + 1, 0, none⟩ v') := by
  have hs := h.size
  have h1 : w1.heap[B + 1]? = some (.cells #[v] 70 (0, 0)) := by
    rw [hg.block (B + 1) (by simp; omega) (h.ne (by omega)), Below.heap_alloc _ _ _ (by omega)]; exact h.list
  have h2 : w1.heap[B]? = some (.cells #[.int .i64 (n : Int)] 3 (0, 0)) := by
    rw [hg.block B (by simp; omega) (h.ne (by omega)), Below.heap_alloc _ _ _ (by omega)]; exact h.nb
  refine ⟨h1, (Below.heap_setCell _ _ _ _ (by show B ≠ B + 1; omega)).trans h2, one_setCell h1, ?_, ?_⟩
  · rw [flat_append, List.length_append]
    exact ownsRow_setCell_below hown (by show B + 1 < B + 2; omega) _
  · exact ((h.below.alloc (by omega) o).grown hg (by simp; omega) (fun j hj => by have := (h.own.lt j hj).1; omega)).setCell (by show B ≤ B + 1; omega) _
theorem blk_ne {w : World} {g j : Nat} {cs ds : Array Value} {t u : TypeId} (h : w.heap[g]? = some (.cells cs t (0, 0))) (k : w.heap[j]? = some (.cells ds u (0, 0))) (ht : t ≠ u) : j ≠ g := fun e => by
  subst e; rw [h] at k; cases k; exact ht rfl
theorem two_setC {w : World} {g : Nat} {a b : Value} {t : TypeId} (h : w.heap[g]? = some (.cells #[a, b] t (0, 0))) (u0 u1 : Value) : ((w.setCell ⟨g, 0, none⟩ u0).setCell ⟨g, 1, none⟩ u1).heap[g]? = some (.cells #[u0, u1] t (0, 0)) :=
  heap_setCell_same _ g 1 #[u0, b] t u1 (heap_setCell_same _ g 0 #[a, b] t u0 h)
theorem GW.setC {B : Nat} {w0 w : World} {v : Value} {L : List (Nat × Nat)} {n g : Nat} {a b : Value} (h : GW B w0 v L n w) (hB : B ≤ g) (hg : w.heap[g]? = some (.cells #[a, b] 93 (0, 0))) (u0 u1 : Value) : GW B w0 v L n ((w.setCell ⟨g, 0, none⟩ u0).setCell ⟨g, 1, none⟩ u1) := by
  have hs : ∀ j, j ≠ g → ((w.setCell ⟨g, 0, none⟩ u0).setCell ⟨g, 1, none⟩ u1).heap[j]? = w.heap[j]? := fun j hj => (Below.heap_setCell _ _ _ _ (by show j ≠ g; exact hj)).trans (Below.heap_setCell _ _ _ _ (by show j ≠ g; exact hj))
  have hne := own_type h.own (by decide) hg
  refine ⟨(hs B (blk_ne hg h.nb (by decide))).trans h.nb, (hs (B + 1) (blk_ne hg h.list (by decide))).trans h.list, own_keepD h.own fun j hj => hs j fun e => hne (by rw [← e]; exact hj.symm), (h.below.setCell (by show B ≤ g; exact hB) _).setCell (by show B ≤ g; exact hB) _⟩
theorem qb_setC {w : World} {qb g : Nat} {a b c : Value} (hq : w.heap[qb]? = some (.cells #[c] 3 (0, 0))) (hg : w.heap[g]? = some (.cells #[a, b] 93 (0, 0))) (u0 u1 : Value) : ((w.setCell ⟨g, 0, none⟩ u0).setCell ⟨g, 1, none⟩ u1).heap[qb]? = some (.cells #[c] 3 (0, 0)) := by
  have hj := blk_ne hg hq (by decide)
  exact ((Below.heap_setCell _ _ _ _ (by show qb ≠ g; exact hj)).trans (Below.heap_setCell _ _ _ _ (by show qb ≠ g; exact hj))).trans hq
/-- All blocks but those of lists of generators are as they were. -/
structure Keep (w w' : World) : Prop where
  size : w.heap.size ≤ w'.heap.size
  at_ : ∀ (j : Nat) (cs : Array Value) (t : TypeId), w.heap[j]? = some (.cells cs t (0, 0)) → t ≠ 73 → t ≠ 70 → w'.heap[j]? = some (.cells cs t (0, 0))
theorem Keep.refl (w : World) : Keep w w := ⟨Nat.le_refl _, fun _ _ _ h _ _ => h⟩
theorem Keep.trans {a b c : World} (h : Keep a b) (k : Keep b c) : Keep a c := ⟨Nat.le_trans h.size k.size, fun j cs t h1 h2 h3 => k.at_ j cs t (h.at_ j cs t h1 h2 h3) h2 h3⟩
theorem Keep.below {a b c : World} (h : Keep a b) (k : Below b.heap.size b c) : Keep a c := ⟨Nat.le_trans h.size k.size, fun j cs t h1 h2 h3 => block_below (h.at_ j cs t h1 h2 h3) k⟩
theorem Keep.setC {w z : World} (h : Below w.heap.size w z) {g : Nat} (hg : w.heap.size ≤ g) (u0 u1 : Value) : Keep w ((z.setCell ⟨g, 0, none⟩ u0).setCell ⟨g, 1, none⟩ u1) := ⟨(Below.setCell (Below.setCell h hg u0) hg u1).size, fun j cs t h1 _ _ => by
  have hj := lt_of_block h1
  exact ((Below.heap_setCell _ _ _ _ (by show j ≠ g; omega)).trans (Below.heap_setCell _ _ _ _ (by show j ≠ g; omega))).trans (block_below h1 h)⟩
theorem Keep.set1 {w z : World} (h : Keep w z) {g : Nat} (hg : w.heap.size ≤ g) (u : Value) : Keep w (z.setCell ⟨g, 0, none⟩ u) :=
  ⟨by simpa using h.size, fun j cs t h1 h2 h3 => by
    have hj := lt_of_block h1
    exact (Below.heap_setCell _ _ _ _ (by show j ≠ g; omega)).trans (h.at_ j cs t h1 h2 h3)⟩
theorem GW.set1 {B : Nat} {w0 w : World} {v : Value} {L : List (Nat × Nat)} {n g : Nat} {a : Value} (h : GW B w0 v L n w) (hB : B < g) (hg : w.heap[g]? = some (.cells #[a] 3 (0, 0))) (u : Value) : GW B w0 v L n (w.setCell ⟨g, 0, none⟩ u) := by
  have hs : ∀ j, j ≠ g → (w.setCell ⟨g, 0, none⟩ u).heap[j]? = w.heap[j]? := fun j hj => Below.heap_setCell _ _ _ _ (by show j ≠ g; exact hj)
  have hne := own_type h.own (by decide) hg
  exact ⟨(hs B (by omega)).trans h.nb, (hs (B + 1) (blk_ne hg h.list (by decide))).trans h.list, own_keepD h.own fun j hj => hs j fun e => hne (by rw [← e]; exact hj.symm), h.below.setCell (by show B ≤ g; omega) _⟩
set_option maxHeartbeats 3200000 in
set_option maxRecDepth 1000000 in
theorem add_any (B : Nat) (w0 w : World) (v : Value) (L : List (Nat × Nat)) (n q qb o : Nat) (a : Int) (hw : GW B w0 v L n w) (hq : w.heap[qb]? = some (.cells #[.int .i64 (q : Int)] 3 (0, 0))) (hc : CrF n q a) (a1 : -10 ≤ a) (a2 : a ≤ 60) (ob : (o : Int) ≤ 60) (hl : L.length ≤ 1000) :
    Calls Try.prog 68 #[.int .i64 a, .int .i64 (o : Int), .pointer (some ⟨qb, 0, none⟩), .pointer (some ⟨B, 0, none⟩), .pointer (some ⟨B + 1, 0, none⟩)] w fun e w' => e = .returned (.tuple #[]) ∧ ∃ v', GW B w0 v' (L ++ [(crV n q a, o)]) n w' ∧ Keep w w' := by
  obtain ⟨i0, hi, hz0, hz1, hz2⟩ := info_parts Try.infoGen
  have HCr := Lib.hid (fun (g : Nat) (V : World) (hg : V.heap[g]? = some (.cells #[.int .i64 a, .int .i64 (q : Int), .int .i64 1, .int .i64 ((n / q : Nat) : Int)] 93 (0, 0))) => crt2_any hc g V hg)
  have q1 : 1 ≤ (q : Int) := by have := hc.q1; omega
  have q2 : (q : Int) ≤ 60 := by have h1 := hc.qn; have h2 := hc.n1; have h3 := hc.n2; have : q ≤ n := (by rw [← h1]; refine Nat.le_mul_of_pos_right _ (Nat.pos_of_ne_zero fun h0 => ?_); rw [h0, Nat.mul_zero] at h1; omega); omega
  have n1 : 1 ≤ (n : Int) := by have := hc.n1; omega
  have n2 : (n : Int) ≤ 60 := by have := hc.n2; omega
  have hcx : (crV n q a : Int) ≤ 60 := by have := hc.x; omega
  have hdv : (n : Int) / (q : Int) = ((n / q : Nat) : Int) := (Int.natCast_ediv _ _).symm
  have htd : Int.tdiv (n : Int) (q : Int) = ((n / q : Nat) : Int) := (Int.ofNat_tdiv _ _).symm
  have hp2 : ((n / q : Nat) : Int) ≤ 60 := by have := Nat.div_le_self n q; omega
  have hq0 : ((q : Int) == 0) = false := by rw [beq_eq_false_iff_ne]; omega
  have hq01 : ¬ ((q : Int) = 0) := by omega
  have hq02 : ¬ (q = 0) := by omega
  clear hc
  generalize crV n q a = x at *
  generalize n / q = p at *
  have hwp : IntKind.i64.wrap (p : Int) = (p : Int) := IntWalk.i64_in _ (by omega)
  have G0 := Lib.hid hw
  have Q0 := Lib.hid hq
  clear hw hq
  have cq : ∀ W : World, W.heap[qb]? = some (.cells #[.int .i64 (q : Int)] 3 (0, 0)) → W.cell? ⟨qb, 0, none⟩ = some (.int .i64 (q : Int)) := fun W h => cell_of_one h
  have HKc : Hid (∀ W, Below w.heap.size w W → W.cell? ⟨qb, 0, none⟩ = some (.int .i64 (q : Int)) ∧ W.cell? ⟨B, 0, none⟩ = some (.int .i64 (n : Int))) := fun W hb => ⟨cell_of_one (block_below Q0.out hb), cell_of_one (block_below G0.out.nb hb)⟩
  clear cq
  have D0 : Hid (Below w.heap.size w w.drew) := Below.drew (Below.refl _ _)
  go_enter Try.func68, Try.ntmps68
  go_upto_region 0 with fail
  go_cut [7] (fun s7 wx => ∃ (g : Nat) (m : Int), s7 = .pointer (some ⟨g, 0, none⟩) ∧ Hid (GW B w0 v L n wx) ∧ Hid (wx.heap[qb]? = some (.cells #[.int .i64 (q : Int)] 3 (0, 0))) ∧ Hid (wx.heap[g]? = some (.cells #[.int .i64 (x : Int), .int .i64 m] 93 (0, 0))) ∧ Hid (Keep w wx))
  case first =>
    have D1 : Hid (Below w.heap.size w (w.alloc (.cells #[.int .i64 a, .int .i64 (q : Int), .int .i64 1, .int .i64 (p : Int)] 93)).drew) := (below1 w _).drew
    have D2 : Hid (Below w.heap.size w ((w.alloc (.cells #[.int .i64 a, .int .i64 (q : Int), .int .i64 1, .int .i64 (p : Int)] 93)).alloc (.cells #[.int .i64 0, .int .i64 0] 93)).drew) := (below2 w _ _).drew
    have D3 : Hid (Below w.heap.size w (w.alloc (.cells #[.int .i64 0, .int .i64 0] 93)).drew) := (below1 w _).drew
    have D4 : Hid (Below w.heap.size w ((w.alloc (.cells #[.int .i64 0, .int .i64 0] 93)).alloc (.cells #[.int .i64 a, .int .i64 (q : Int), .int .i64 1, .int .i64 (p : Int)] 93)).drew) := (below2 w _ _).drew
    have X1 : Hid ((w.alloc (.cells #[.int .i64 a, .int .i64 (q : Int), .int .i64 1, .int .i64 (p : Int)] 93)).drew.heap[w.heap.size]? = some (.cells #[.int .i64 a, .int .i64 (q : Int), .int .i64 1, .int .i64 (p : Int)] 93 (0, 0))) := heap_alloc_new w _
    have X2 : Hid (((w.alloc (.cells #[.int .i64 a, .int .i64 (q : Int), .int .i64 1, .int .i64 (p : Int)] 93)).alloc (.cells #[.int .i64 0, .int .i64 0] 93)).drew.heap[w.heap.size]? = some (.cells #[.int .i64 a, .int .i64 (q : Int), .int .i64 1, .int .i64 (p : Int)] 93 (0, 0))) := block_alloc (heap_alloc_new w _) _
    have X4 : Hid (((w.alloc (.cells #[.int .i64 0, .int .i64 0] 93)).alloc (.cells #[.int .i64 a, .int .i64 (q : Int), .int .i64 1, .int .i64 (p : Int)] 93)).drew.heap[w.heap.size + 1]? = some (.cells #[.int .i64 a, .int .i64 (q : Int), .int .i64 1, .int .i64 (p : Int)] 93 (0, 0))) := by
      have : ((w.alloc (.cells #[.int .i64 0, .int .i64 0] 93)).alloc (.cells #[.int .i64 a, .int .i64 (q : Int), .int .i64 1, .int .i64 (p : Int)] 93)).heap[w.heap.size + 1]? = some (.cells #[.int .i64 a, .int .i64 (q : Int), .int .i64 1, .int .i64 (p : Int)] 93 (0, 0)) := by simpa using heap_alloc_new (w.alloc (.cells #[.int .i64 0, .int .i64 0] 93)) (.cells #[.int .i64 a, .int .i64 (q : Int), .int .i64 1, .int .i64 (p : Int)] 93)
      exact this
    have Y2 : Hid (((w.alloc (.cells #[.int .i64 a, .int .i64 (q : Int), .int .i64 1, .int .i64 (p : Int)] 93)).alloc (.cells #[.int .i64 0, .int .i64 0] 93)).drew.heap[w.heap.size + 1]? = some (.cells #[.int .i64 0, .int .i64 0] 93 (0, 0))) := by
      have : ((w.alloc (.cells #[.int .i64 a, .int .i64 (q : Int), .int .i64 1, .int .i64 (p : Int)] 93)).alloc (.cells #[.int .i64 0, .int .i64 0] 93)).heap[w.heap.size + 1]? = some (.cells #[.int .i64 0, .int .i64 0] 93 (0, 0)) := by simpa using heap_alloc_new (w.alloc (.cells #[.int .i64 a, .int .i64 (q : Int), .int .i64 1, .int .i64 (p : Int)] 93)) (.cells #[.int .i64 0, .int .i64 0] 93)
      exact this
    have Y4 : Hid (((w.alloc (.cells #[.int .i64 0, .int .i64 0] 93)).alloc (.cells #[.int .i64 a, .int .i64 (q : Int), .int .i64 1, .int .i64 (p : Int)] 93)).drew.heap[w.heap.size]? = some (.cells #[.int .i64 0, .int .i64 0] 93 (0, 0))) := block_alloc (heap_alloc_new w _) _
    go_region_held3 (fun w' => w'.cell? ⟨qb, 0, none⟩ = some (.int .i64 (q : Int)) ∧ w'.cell? ⟨B, 0, none⟩ = some (.int .i64 (n : Int)))
      (with_reducible first | exact HKc.out _ D0.out | exact HKc.out _ D1.out | exact HKc.out _ D2.out | exact HKc.out _ D3.out | exact HKc.out _ D4.out | exact HKc.out _ Z1.out | exact HKc.out _ (Below.alloc Z1.out Z1.out.size _) | exact HKc.out _ (Below.setCell (Below.setCell Z1.out hgc _) hgc _) | fail)
      (first
        | (go_at_call 69; first
            | ((with_reducible refine (HCr.out _ _ X1.out).mono ?_); rintro e z ⟨m, rfl, hb⟩; have Z1 := Lib.hid (bel0 D1.out hb); clear hb)
            | ((with_reducible refine (HCr.out _ _ X2.out).mono ?_); rintro e z ⟨m, rfl, hb⟩; have Z1 := Lib.hid (bel0 D2.out hb); have K1 := Lib.hid (block_below Y2.out hb); obtain ⟨k0, k1, kf⟩ := cells_two K1.out; have hgc : w.heap.size ≤ w.heap.size + 1 := Nat.le_succ _; clear hb)
            | ((with_reducible refine (HCr.out _ _ X4.out).mono ?_); rintro e z ⟨m, rfl, hb⟩; have Z1 := Lib.hid (bel0 D4.out hb); have K1 := Lib.hid (block_below Y4.out hb); obtain ⟨k0, k1, kf⟩ := cells_two K1.out; have hgc : w.heap.size ≤ w.heap.size := Nat.le_refl _; clear hb)
            | fail)
        | fail)
    all_goals
      go_wp2_with fail
      go_meet
      have hsz := G0.out.size
      first
        | exact ⟨_, m, rfl, (G0.out.on Z1.out).on (below1 z _), block_alloc (block_below Q0.out Z1.out) _, heap_alloc_new z _, ((Keep.refl w).below Z1.out).below (below1 z _)⟩
        | exact ⟨_, m, rfl, (G0.out.on Z1.out).setC (by omega) K1.out _ _, qb_setC (block_below Q0.out Z1.out) K1.out _ _, two_setC K1.out _ _, Keep.setC Z1.out hgc _ _⟩
        | fail
  case rest =>
    obtain ⟨g, m, rfl, HG, HQ, HM, HKp⟩ := hcut
    obtain ⟨k0, k1, kf⟩ := cells_two HM.out
    have hlist := cell_of_one HG.out.list
    have hlfz := free_of_one HG.out.list
    have hown := HG.out.own
    have hsz := HG.out.size
    have hlt := lt_of_block HM.out
    go_wp2_with (at_builtin; (refine wpList_append_own _ rfl _ _ 70 rfl (B + 2) 73 i0 (.agg #[.int .i64 0, .int .i64 0]) 2 16 Try.underlying70 hi hz0 hz1 hz2 rfl (by decide) _ _ _ rfl (hown.alloc _) ⟨wc.heap.size, 0, none⟩ 1 1 [.int .i64 (x : Int), .int .i64 (o : Int)] rfl rfl (cell_two_new _ _ _ _) (fun y hy => by simp at hy; rcases hy with rfl | rfl <;> rfl) (by unfold maxLen; omega) (by omega) (by simp; omega) ?_); intro v' w3 hown' hgrow3 hnil3; obtain ⟨la, ll, lc, rfl⟩ := ownsRow_slice hown'; obtain ⟨L1, HR1⟩ := HG.out.app (d := x) (k := o) hown' hgrow3; have hl1 := cell_of_one L1; have hl2 := free_of_one L1; have HR2 := Lib.hid HR1; have HQ3 : Hid (Keep wc w3) := ⟨(by have h9 := hgrow3.size; simp at h9; omega), (fun j cs t h1 h2 h3 => (hgrow3.block j (by have := lt_of_block h1; simp; omega) (own_type HG.out.own h2 h1)).trans (block_alloc h1 _))⟩; clear hown' hgrow3 HR1 hown hlist hlfz hnil3)
    go_end0
    refine ⟨rfl, _, HR2.out, ?_⟩
    exact HKp.out.trans ⟨by simpa using HQ3.out.size, fun j cs t h1 h2 h3 => (Below.heap_setCell _ _ _ _ (by show j ≠ B + 1; exact blk_ne L1 (HQ3.out.at_ j cs t h1 h2 h3) (Ne.symm h3))).trans (HQ3.out.at_ j cs t h1 h2 h3)⟩
end Go.Proofs.Ytlagljnhbhnelaa
