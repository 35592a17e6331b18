/- dirichlet.character of the closure of Quadratic. -/
import Derived.Test.YtlagljnhbhnelaaGnH
import Derived.Test.YtlagljnhbhnelaaHeadT
import Derived.Deep.AppendLies
namespace Go.Proofs.Ytlagljnhbhnelaa
open Go.RowKit
set_option linter.unusedVariables false
set_option linter.unusedSimpArgs false

theorem Try.infoIntC : (Try.prog.info? 3).map (fun i => (i.zero, i.size, i.bytes)) = some (some (.int .i64 0), 1, 8) := by kernel_rfl
def quX (D : Int) (g : Nat × Nat) : Nat := (if kron D (g.1 : Int) = 1 then 0 else 1) * g.2 / 2
/-- The exponents of the quadratic character. -/
def quE (D : Int) (n : Nat) : List Int := (gensV n).map fun g => (quX D g : Int)
/-- The world within character: the character's box, its exponents; all else below C is as it was. -/
structure XW (B C : Nat) (w0 w2 : World) (n : Nat) (v : Value) (E : List Int) (w : World) : Prop where
  hC : B + 2 ≤ C
  size : C ≤ w.heap.size
  box : w.heap[B + 1]? = some (.cells #[.int .i64 (n : Int), v] 33 (0, 0))
  own : w.ownsRow C 3 1 v E.length (zs E)
  keep : ∀ j, j < C → j ≠ B + 1 → w.heap[j]? = w2.heap[j]?
  below : Below B w0 w
theorem XW.on {B C : Nat} {w0 w2 w w1 : World} {n : Nat} {v : Value} {E : List Int} (h : XW B C w0 w2 n v E w) (hb : Below w.heap.size w w1) : XW B C w0 w2 n v E w1 :=
  ⟨h.hC, Nat.le_trans h.size hb.size, block_below h.box hb, own_keepD h.own (fun g hg => (hb.block g (h.own.lt g hg).2)), fun j hj hn => (hb.block j (by have := h.size; omega)).trans (h.keep j hj hn), h.below.trans (hb.mono (by have h1 := h.size; have h2 := h.hC; omega))⟩
theorem XW.drew {B C : Nat} {w0 w2 w : World} {n : Nat} {v : Value} {E : List Int} (h : XW B C w0 w2 n v E w) : XW B C w0 w2 n v E w.drew := h.on (Below.refl _ _).drew
theorem XW.push {B C : Nat} {w0 w2 w w1 : World} {n : Nat} {v v' : Value} {E : List Int} {x : Int} {o : Obj} (h : XW B C w0 w2 n v E w)
    (hown : w1.ownsRow C 3 1 v' (E.length + 1) (zs E ++ [.int .i64 x])) (hg : (w.alloc o).grownBy w1 v.ownBlock) :
    w1.heap[B + 1]? = some (.cells #[.int .i64 (n : Int), v] 33 (0, 0)) ∧ XW B C w0 w2 n v' (E ++ [x]) (w1.setCell ⟨B + 1, 1, none⟩ v') := by
  have hs := h.size
  have hc := h.hC
  have hne : ∀ j, j < C → some j ≠ v.ownBlock := fun j hj e => by have := (h.own.lt j e.symm).1; omega
  have hat : ∀ j, j < C → w1.heap[j]? = w.heap[j]? := fun j hj => by
    rw [hg.block j (by simp; omega) (hne _ hj), Below.heap_alloc _ _ _ (by omega)]
  have h1 : w1.heap[B + 1]? = some (.cells #[.int .i64 (n : Int), v] 33 (0, 0)) := (hat _ (by omega)).trans h.box
  refine ⟨h1, hc, ?_, ?_, ?_, fun j hj hn => ((Below.heap_setCell _ _ _ _ (by show j ≠ B + 1; exact hn)).trans (hat j hj)).trans (h.keep j hj hn), ?_⟩
  · have h9 := hg.size; simp at h9; simp; omega
  · exact heap_setCell_same _ (B + 1) 1 #[.int .i64 (n : Int), v] _ v' h1
  · rw [zs_append, List.length_append]
    exact ownsRow_setCell_below hown (by show B + 1 < C; omega) _
  · exact ((h.below.alloc (by omega) o).grown hg (by simp; omega) (fun j hj => by have := (h.own.lt j hj).1; omega)).setCell (by show B ≤ B + 1; omega) _
set_option maxHeartbeats 6400000 in
set_option maxRecDepth 1000000 in
theorem charq_any (D : Int) (n b : Nat) (w : World) (n1 : 1 ≤ n) (n2 : (n : Int) ≤ 60) (d1 : -60 ≤ D) (d2 : D ≤ 60) (hD : w.heap[b]? = some (.cells #[.int .i64 D] 3 (0, 0))) :
    Calls Try.prog 59 #[.int .i64 (n : Int), .func (.func 63) #[] #[.pointer (some ⟨b, 0, none⟩)]] w fun e w' => ∃ v, e = .returned (.agg #[.int .i64 (n : Int), v]) ∧ w'.ownsRow (w.heap.size + 2) 3 1 v (quE D n).length (zs (quE D n)) ∧ Below w.heap.size w w' := by
  obtain ⟨i0, hi0, z0, z1, z2⟩ := info_parts Try.infoIntC
  have HGe := Lib.hid (fun W => gens_any n W n1 n2)
  have HGb := Lib.hid (gens_facts n1 (show n ≤ 60 by omega))
  have hgl := HGb.out.len
  have HQ := Lib.hid (fun (V : World) (a : Nat) (h1 : (a : Int) ≤ 60) (hc : V.cell? ⟨b, 0, none⟩ = some (.int .i64 D)) => qclo_any D (a : Int) b V (by omega) (by omega) (by omega) (by omega) hc)
  have HP : Hid (((gensV n).take (gensV n).length).map (fun g => (quX D g : Int)) = quE D n) := by show _ = _; rw [List.take_length]; rfl
  have hbl := lt_of_block hD
  have HD := Lib.hid hD
  have HX0 : Hid (((w.alloc (.cells #[.int .i64 0, .slice none 0 0] 33)).alloc (.cells #[.int .i64 (n : Int), .slice none 0 0] 33)).heap[w.heap.size + 1]? = some (.cells #[.int .i64 (n : Int), .slice none 0 0] 33 (0, 0))) := by
    have := heap_alloc_new (w.alloc (.cells #[.int .i64 0, .slice none 0 0] 33)) (.cells #[.int .i64 (n : Int), .slice none 0 0] 33)
    show _ = _
    simpa using this
  have HR0 : Hid (((w.alloc (.cells #[.int .i64 0, .slice none 0 0] 33)).alloc (.cells #[.int .i64 (n : Int), .slice none 0 0] 33)).heap[w.heap.size]? = some (.cells #[.int .i64 0, .slice none 0 0] 33 (0, 0))) := block_alloc (heap_alloc_new w _) _
  have HB0 : Hid (Below w.heap.size w ((w.alloc (.cells #[.int .i64 0, .slice none 0 0] 33)).alloc (.cells #[.int .i64 (n : Int), .slice none 0 0] 33))) := below2 w _ _
  clear hD
  generalize gensV n = G at *
  go_enter Try.func59, Try.ntmps59
  go_wp2_with (first
    | (go_at_call 47; ((with_reducible refine (HGe.out _).mono ?_); rintro e w2 ⟨v, rfl, ho, hb⟩; obtain ⟨la, lc, rfl, hrd⟩ := gen_blk ho; have HR := Lib.hid hrd; have HX2 := Lib.hid (block_below HX0.out hb); have HR2 := Lib.hid (block_below HR0.out hb); have HB2 := Lib.hid (HB0.out.trans (hb.mono HB0.out.size)); clear ho hb hrd))
    | fail)
  have hs2 := lt_of_block HX2.out
  have HXs : Hid (XW w.heap.size w2.heap.size w w2 n (.slice none 0 0) [] w2) := ⟨by omega, Nat.le_refl _, HX2.out, World.ownsRow_nil _ _ _ _, fun _ _ _ => rfl, HB2.out⟩
  clear HX0 HR0 HB0 HGe
  go_loopw [7, 8, 9, 15] (fun _ _ _ I wr => ∃ (k : Nat) (v : Value), I = .int .i64 k ∧ k ≤ G.length ∧ Hid (XW w.heap.size w2.heap.size w w2 n v ((G.take k).map fun g => (quX D g : Int)) wr)) (fun _ _ _ I _ => G.length - (intOf I).toNat)
  case atStart => exact ⟨0, _, rfl, Nat.zero_le _, HXs.out⟩
  case round =>
    obtain ⟨k, v, rfl, hk, HX⟩ := hrel
    by_cases hkl : k < G.length
    · have hkli : (k : Int) < (G.length : Int) := by omega
      obtain ⟨g, cs, rfl, hg1, hcell⟩ := HR.out k hkl
      obtain ⟨x1, x2⟩ := hcell wr ((HX.out.keep g (lt_of_block hg1) (blk_ne HX2.out hg1 (by decide))).trans hg1)
      have HN : Hid ((G.take (k + 1)).map (fun g => (quX D g : Int)) = (G.take k).map (fun g => (quX D g : Int)) ++ [(quX D G[k] : Int)]) := by
        show _ = _
        rw [List.take_add_one, List.getElem?_eq_getElem hkl, Option.toList_some, List.map_append]; rfl
      have p60 := HGb.out.v _ (List.getElem_mem hkl)
      have q1 := HGb.out.o1 _ (List.getElem_mem hkl)
      have q60 := HGb.out.o2 _ (List.getElem_mem hkl)
      clear hg1 hcell
      generalize G[k] = f at *
      obtain ⟨p, q⟩ := f
      simp only at x1 x2 p60 q1 q60
      have hqx : quX D (p, q) = (if kron D (p : Int) = 1 then 0 else 1) * q / 2 := rfl
      have hmul : (if kron D (p : Int) = 1 then (0 : Int) else 1) * (q : Int) = (((if kron D (p : Int) = 1 then 0 else 1) * q : Nat) : Int) := by split <;> simp
      have hy : (if kron D (p : Int) = 1 then 0 else 1) * q ≤ q := by split <;> omega
      generalize quX D (p, q) = x at *
      go_upto_region 5 with fail
      have HX3 : Hid (XW w.heap.size w2.heap.size w w2 n v ((G.take k).map fun g => (quX D g : Int)) (wr.alloc (.cells #[.int .i64 (p : Int), .int .i64 (q : Int)] 73))) := HX.out.on (below1 wr _)
      have HG3 : Hid ((wr.alloc (.cells #[.int .i64 (p : Int), .int .i64 (q : Int)] 73)).heap[wr.heap.size]? = some (.cells #[.int .i64 (p : Int), .int .i64 (q : Int)] 73 (0, 0))) := heap_alloc_new wr _
      have hgb : w2.heap.size ≤ wr.heap.size := HX.out.size
      clear x1 x2 HX
      generalize (wr.alloc (.cells #[.int .i64 (p : Int), .int .i64 (q : Int)] 73)) = W3 at *
      generalize wr.heap.size = gb at *
      obtain ⟨y1, y2, _⟩ := cells_two HG3.out
      obtain ⟨b1, b2, _⟩ := cells_two HX3.out.box
      have hcl := cell_of_one (t := 3) ((HX3.out.below.block b hbl).trans HD.out)
      have HQ3 := Lib.hid (HQ.out W3 p (by omega) hcl)
      generalize (if kron D (p : Int) = 1 then (0 : Int) else 1) = z at *
      generalize (if kron D (p : Int) = 1 then 0 else 1) * q = y at *
      have htd : Int.tdiv (y : Int) 2 = (x : Int) := by rw [Int.tdiv_eq_ediv_of_nonneg (by omega)]; omega
      have hdv : (y : Int) / 2 = (x : Int) := by omega
      have hwy : IntKind.i64.wrap (y : Int) = (y : Int) := IntWalk.i64_in _ (by omega)
      have hwx : IntKind.i64.wrap (x : Int) = (x : Int) := IntWalk.i64_in _ (by omega)
      have htl : (G.take k).length ≤ 8 := by rw [List.length_take]; omega
      clear hqx hy
      go_wp2_with (first
        | (go_at_call 63; ((with_reducible refine HQ3.out.mono ?_); rintro e w5 ⟨rfl, rfl⟩))
        | fail)
      have HHd : Hid (∀ V, XW w.heap.size w2.heap.size w w2 n v ((G.take k).map fun g => (quX D g : Int)) V → V.heap[gb]? = some (.cells #[.int .i64 (p : Int), .int .i64 (q : Int)] 73 (0, 0)) → V.cell? ⟨w.heap.size + 1, 1, none⟩ = some v ∧ V.cell? ⟨gb, 1, none⟩ = some (.int .i64 (q : Int))) := fun V h1 h2 => ⟨(cells_two h1.box).2.1, (cells_two h2).2.1⟩
      have HXd := Lib.hid HX3.out.drew
      have HGd : Hid (W3.drew.heap[gb]? = some (.cells #[.int .i64 (p : Int), .int .i64 (q : Int)] 73 (0, 0))) := HG3.out
      clear y1 y2 b1 b2 hcl HX3 HG3
      go_upto_region 6 with fail
      obtain ⟨wd, hwd⟩ : ∃ wd, wd = W3.drew := ⟨_, rfl⟩
      rw [← hwd] at HXd HGd
      refine region_E 9 (fun w' => w'.cell? ⟨w.heap.size + 1, 1, none⟩ = some v ∧ w'.cell? ⟨gb, 1, none⟩ = some (.int .i64 (q : Int))) (by kernel_rfl) ?_
      rw [← hwd]
      clear hwd
      have hHeld := HHd.out wd HXd.out HGd.out
      refine take_E (n := 9) (i := 0) (v := ?vtt_0) rfl (by kernel_rfl) (fun _ _ _ h => h) ?hytt_0 (by rfl) hHeld ?resttt_0
      case hytt_0 => (intro w9 hSw; (try dsimp only at hSw); go_simp <;> with_reducible rfl)
      (try simp only [List.getElem_toArray, List.getElem_cons_zero, List.getElem_cons_succ, Act.put, List.setIfInBounds_toArray, List.set_cons_zero, List.set_cons_succ])
      refine take_E (n := 9) (i := 1) (v := ?vtt_1) rfl (by kernel_rfl) (fun _ _ _ h => h) ?hytt_1 (by rfl) hHeld ?resttt_1
      case hytt_1 => (intro w9 hSw; (try dsimp only at hSw); go_simp <;> with_reducible rfl)
      (try simp only [List.getElem_toArray, List.getElem_cons_zero, List.getElem_cons_succ, Act.put, List.setIfInBounds_toArray, List.set_cons_zero, List.set_cons_succ])
      refine take_E (n := 9) (i := 2) (v := ?vtt_2) rfl (by kernel_rfl) (fun _ _ _ h => h) ?hytt_2 (by rfl) hHeld ?resttt_2
      case hytt_2 => (intro w9 hSw; (try dsimp only at hSw); go_simp <;> with_reducible rfl)
      (try simp only [List.getElem_toArray, List.getElem_cons_zero, List.getElem_cons_succ, Act.put, List.setIfInBounds_toArray, List.set_cons_zero, List.set_cons_succ])
      refine take_E (n := 9) (i := 3) (v := ?vtt_3) rfl (by kernel_rfl) (fun _ _ _ h => h) ?hytt_3 (by rfl) hHeld ?resttt_3
      case hytt_3 => (intro w9 hSw; (try dsimp only at hSw); go_simp <;> with_reducible rfl)
      (try simp only [List.getElem_toArray, List.getElem_cons_zero, List.getElem_cons_succ, Act.put, List.setIfInBounds_toArray, List.set_cons_zero, List.set_cons_succ])
      refine take_E (n := 9) (i := 4) (v := ?vtt_4) rfl (by kernel_rfl) (fun _ _ _ h => h) ?hytt_4 (by rfl) hHeld ?resttt_4
      case hytt_4 => (intro w9 hSw; (try dsimp only at hSw); go_simp <;> with_reducible rfl)
      (try simp only [List.getElem_toArray, List.getElem_cons_zero, List.getElem_cons_succ, Act.put, List.setIfInBounds_toArray, List.set_cons_zero, List.set_cons_succ])
      refine take_E (n := 9) (i := 5) (v := ?vtt_5) rfl (by kernel_rfl) (fun _ _ _ h => h) ?hytt_5 (by rfl) hHeld ?resttt_5
      case hytt_5 => (intro w9 hSw; (try dsimp only at hSw); go_simp <;> with_reducible rfl)
      (try simp only [List.getElem_toArray, List.getElem_cons_zero, List.getElem_cons_succ, Act.put, List.setIfInBounds_toArray, List.set_cons_zero, List.set_cons_succ])
      refine take_E (n := 9) (i := 6) (v := ?vtt_6) rfl (by kernel_rfl) (fun _ _ _ h => h) ?hytt_6 (by rfl) hHeld ?resttt_6
      case hytt_6 => (intro w9 hSw; (try dsimp only at hSw); go_simp <;> with_reducible rfl)
      (try simp only [List.getElem_toArray, List.getElem_cons_zero, List.getElem_cons_succ, Act.put, List.setIfInBounds_toArray, List.set_cons_zero, List.set_cons_succ])
      refine take_E (n := 9) (i := 7) (v := ?vtt_7) rfl (by kernel_rfl) (fun _ _ _ h => h) ?hytt_7 (by rfl) hHeld ?resttt_7
      case hytt_7 => (intro w9 hSw; (try dsimp only at hSw); go_simp <;> with_reducible rfl)
      (try simp only [List.getElem_toArray, List.getElem_cons_zero, List.getElem_cons_succ, Act.put, List.setIfInBounds_toArray, List.set_cons_zero, List.set_cons_succ])
      refine one_E (n := 9) (i := 8) (by kernel_rfl) rfl (fun K hK => ?_)
      go_simp
      refine hK.out _ _ (fun _ => HHd.out _ (HXd.out.on (below1 wd _)) (block_alloc HGd.out _)) (fun hHeld8 => ?_)
      clear hK K
      (try simp only [List.getElem_toArray, List.getElem_cons_zero, List.getElem_cons_succ, Act.put, List.setIfInBounds_toArray, List.set_cons_zero, List.set_cons_succ])
      refine one_E (n := 9) (i := 9) (by kernel_rfl) rfl (fun K hK => ?_)
      refine step_append_lies _ (by rfl) _ _ _ (by rfl) w2.heap.size 3 i0 _ 1 8 Try.underlying23 hi0 z0 z1 z2 rfl (by omega) v _ _ (by rfl) (HXd.out.on (below1 wd _)).own ⟨wd.heap.size, 0, none⟩ 1 1 [.int .i64 (x : Nat)] (by rfl) (by rfl) (World.news_of_block (cs := #[.int .i64 (x : Nat)]) (t := 3) (fr := (0, 0)) (heap_alloc_new wd _)) (by simp [Value.oneCell']) (by omega) (by simp; unfold maxLen; omega) (by simp; omega) (by have := HXd.out.size; simp; omega) (wd.heap.size + 1) (by simp) ?_
      intro gg cap' p2 hown2 hgrow hat hlt3
      obtain ⟨hbx, hxn⟩ := HXd.out.push hown2 hgrow
      have hlk : ((G.take k).map fun g => (quX D g : Int)).length = k := by rw [List.length_map, List.length_take]; omega
      rw [hlk] at hxn
      have HXn := Lib.hid hxn
      obtain ⟨e1, e2, ef⟩ := cells_two hbx
      clear hown2 hgrow hat hxn hbx
      refine hK.out _ _ (fun h => absurd h (by decide)) (fun hHeld9 => ?_)
      clear hK K
      (try simp only [List.getElem_toArray, List.getElem_cons_zero, List.getElem_cons_succ, Act.put, List.setIfInBounds_toArray, List.set_cons_zero, List.set_cons_succ])
      refine one_E (n := 9) (i := 10) (by kernel_rfl) rfl (fun K hK => ?_)
      go_simp
      refine hK.out _ _ (fun h => absurd h (by decide)) (fun hHeld10 => ?_)
      clear hK K
      (try simp only [List.getElem_toArray, List.getElem_cons_zero, List.getElem_cons_succ, Act.put, List.setIfInBounds_toArray, List.set_cons_zero, List.set_cons_succ])
      refine one_E (n := 9) (i := 11) (by kernel_rfl) rfl (fun K hK => ?_)
      go_simp
      refine hK.out _ _ (fun h => absurd h (by decide)) (fun hHeld11 => ?_)
      clear hK K
      (try simp only [List.getElem_toArray, List.getElem_cons_zero, List.getElem_cons_succ, Act.put, List.setIfInBounds_toArray, List.set_cons_zero, List.set_cons_succ])
      refine done_E (by kernel_rfl) ?_ _
      go_wp2
      go_roundw
      case rel => exact ⟨k + 1, _, by go_num, by omega, by rw [HN.out]; exact HXn.out⟩
      case measure => simp [intOf]; omega
    · obtain rfl : k = G.length := by omega
      have hk3 : ¬ (G.length : Int) < (G.length : Int) := by omega
      have HE := Lib.hid HP.out
      rw [HE.out] at HX
      obtain ⟨A0, l0, c0, rfl⟩ := ownsRow_slice HX.out.own
      obtain ⟨e0, e1, ef⟩ := cells_two HX.out.box
      have HRr := Lib.hid ((HX.out.keep w.heap.size (by omega) (by omega)).trans HR2.out)
      obtain ⟨r0, r1, rf⟩ := cells_two HRr.out
      have HRs := Lib.hid (two_setC HRr.out (.int .i64 (n : Int)) (.slice A0 l0 c0))
      obtain ⟨s0, s1, sf⟩ := cells_two HRs.out
      have HO := Lib.hid (own_base (show w.heap.size + 2 ≤ w2.heap.size by omega) (ownsRow_setCell_below (ownsRow_setCell_below HX.out.own (a := ⟨w.heap.size, 0, none⟩) (by show w.heap.size < w2.heap.size; omega) (.int .i64 (n : Int))) (a := ⟨w.heap.size, 1, none⟩) (by show w.heap.size < w2.heap.size; omega) (.slice A0 l0 c0)))
      have HBe := Lib.hid ((HX.out.below.setCell (p := ⟨w.heap.size, 0, none⟩) (Nat.le_refl _) (.int .i64 (n : Int))).setCell (p := ⟨w.heap.size, 1, none⟩) (Nat.le_refl _) (.slice A0 l0 c0))
      go_wp2
      refine bodyPost_ret (v := .agg #[.int .i64 (n : Int), .slice A0 l0 c0]) ?_ rfl ⟨_, rfl, HO.out, HBe.out⟩
      simp [results, Try.results59, go_sem, s0, s1]
end Go.Proofs.Ytlagljnhbhnelaa
