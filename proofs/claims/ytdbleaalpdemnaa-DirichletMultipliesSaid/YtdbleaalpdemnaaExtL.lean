/- character of a table; Extend. -/
import Derived.Test.YtdbleaalpdemnaaTabC
import Derived.Test.YtdbleaalpdemnaaPerL
import Derived.Test.YtdbleaalpdemnaaGnI
import Derived.Test.YtdbleaalpdemnaaGnJ
namespace Go.Proofs.Ytdbleaalpdemnaa
open Go.RowKit
set_option linter.unusedVariables false
set_option linter.unusedSimpArgs false

/-- The exponent at a generator, and all exponents, of the character whose values a table gives. -/
def chX (T : List Int) (m : Nat) (g : Nat × Nat) : Int := T.getD (g.1 % T.length) 0 * (g.2 : Int) / (m : Int)
def chE (T : List Int) (m n : Nat) : List Int := (gensV n).map (chX T m)
set_option maxHeartbeats 6400000 in
set_option maxRecDepth 1000000 in
theorem chart_any (T : List Int) (m n : Nat) (A : Option Addr) (c : Nat) (w : World) (n1 : 1 ≤ n) (n2 : (n : Int) ≤ 60) (m1 : 1 ≤ m) (m2 : m ≤ 60) (hN1 : 1 ≤ T.length) (hN2 : T.length ≤ 60) (hT : RdZ w w.heap.size A c T) (hg : ∀ g ∈ gensV n, 0 ≤ T.getD (g.1 % T.length) 0 ∧ T.getD (g.1 % T.length) 0 ≤ 60) :
    Calls Try.prog 59 #[.int .i64 (n : Int), .func (.func 58) #[.agg #[.slice A T.length c, .int .i64 (m : Int)]] #[]] w fun e w' => ∃ v, e = .returned (.agg #[.int .i64 (n : Int), v]) ∧ w'.ownsRow (w.heap.size + 2) 3 1 v (chE T m n).length (zs (chE T m n)) ∧ Below w.heap.size w w' := by
  obtain ⟨i0, hi0, z0, z1, z2⟩ := info_parts Try.infoIntC
  have HGe := Lib.hid (fun W => gens_any n W n1 n2)
  have HGb := Lib.hid (gens_facts n1 (show n ≤ 60 by omega))
  have hgl := HGb.out.len
  have HQ := Lib.hid (fun (V : World) (a : Nat) (h1 : (a : Int) ≤ 60) (hc : RdZ V V.heap.size A c T) => at_any T m (a : Int) A c (a % T.length) (T.getD (a % T.length) 0) V hc hN2 (by omega) (by omega) (Int.natCast_emod a T.length).symm (getD_some T _ (Nat.mod_lt _ hN1)))
  have HGg := Lib.hid hg
  have HP : Hid (((gensV n).take (gensV n).length).map (chX T m) = chE T m n) := by show _ = _; rw [List.take_length]; rfl
  have HT := Lib.hid hT
  have HX0 : Hid (((w.alloc (.cells #[.int .i64 0, .slice none 0 0] 33)).alloc (.cells #[.int .i64 (n : Int), .slice none 0 0] 33)).heap[w.heap.size + 1]? = some (.cells #[.int .i64 (n : Int), .slice none 0 0] 33 (0, 0))) := by
    have := heap_alloc_new (w.alloc (.cells #[.int .i64 0, .slice none 0 0] 33)) (.cells #[.int .i64 (n : Int), .slice none 0 0] 33)
    show _ = _
    simpa using this
  have HR0 : Hid (((w.alloc (.cells #[.int .i64 0, .slice none 0 0] 33)).alloc (.cells #[.int .i64 (n : Int), .slice none 0 0] 33)).heap[w.heap.size]? = some (.cells #[.int .i64 0, .slice none 0 0] 33 (0, 0))) := block_alloc (heap_alloc_new w _) _
  have HB0 : Hid (Below w.heap.size w ((w.alloc (.cells #[.int .i64 0, .slice none 0 0] 33)).alloc (.cells #[.int .i64 (n : Int), .slice none 0 0] 33))) := below2 w _ _
  clear hT hg
  generalize gensV n = G at *
  go_enter Try.func59, Try.ntmps59
  go_wp2_with (first
    | (go_at_call 47; ((with_reducible refine (HGe.out _).mono ?_); rintro e w2 ⟨v, rfl, ho, hb⟩; obtain ⟨la, lc, rfl, hrd⟩ := gen_blk ho; have HR := Lib.hid hrd; have HX2 := Lib.hid (block_below HX0.out hb); have HR2 := Lib.hid (block_below HR0.out hb); have HB2 := Lib.hid (HB0.out.trans (hb.mono HB0.out.size)); clear ho hb hrd))
    | fail)
  have hs2 := lt_of_block HX2.out
  have HXs : Hid (XW w.heap.size w2.heap.size w w2 n (.slice none 0 0) [] w2) := ⟨by omega, Nat.le_refl _, HX2.out, World.ownsRow_nil _ _ _ _, fun _ _ _ => rfl, HB2.out⟩
  clear HX0 HR0 HB0 HGe
  go_loopw [7, 8, 9, 15] (fun _ _ _ I wr => ∃ (k : Nat) (v : Value), I = .int .i64 k ∧ k ≤ G.length ∧ Hid (XW w.heap.size w2.heap.size w w2 n v ((G.take k).map (chX T m)) wr)) (fun _ _ _ I _ => G.length - (intOf I).toNat)
  case atStart => exact ⟨0, _, rfl, Nat.zero_le _, HXs.out⟩
  case round =>
    obtain ⟨k, v, rfl, hk, HX⟩ := hrel
    by_cases hkl : k < G.length
    · have hkli : (k : Int) < (G.length : Int) := by omega
      obtain ⟨g, cs, rfl, hg1, hcell⟩ := HR.out k hkl
      obtain ⟨x1, x2⟩ := hcell wr ((HX.out.keep g (lt_of_block hg1) (blk_ne HX2.out hg1 (by decide))).trans hg1)
      have HN : Hid ((G.take (k + 1)).map (chX T m) = (G.take k).map (chX T m) ++ [chX T m G[k]]) := by
        show _ = _
        rw [List.take_add_one, List.getElem?_eq_getElem hkl, Option.toList_some, List.map_append]; rfl
      have p60 := HGb.out.v _ (List.getElem_mem hkl)
      have q1 := HGb.out.o1 _ (List.getElem_mem hkl)
      have q60 := HGb.out.o2 _ (List.getElem_mem hkl)
      obtain ⟨zp0, zp1⟩ := HGg.out _ (List.getElem_mem hkl)
      clear hg1 hcell
      generalize G[k] = f at *
      obtain ⟨p, q⟩ := f
      simp only at x1 x2 p60 q1 q60 zp0 zp1
      have hqx : chX T m (p, q) = T.getD (p % T.length) 0 * (q : Int) / (m : Int) := rfl
      have hy0 : 0 ≤ T.getD (p % T.length) 0 * (q : Int) := Int.mul_nonneg zp0 (by omega)
      have hy1 : T.getD (p % T.length) 0 * (q : Int) ≤ 60 * 60 := Int.mul_le_mul zp1 (by omega) (by omega) (by omega)
      have hx0 : 0 ≤ T.getD (p % T.length) 0 * (q : Int) / (m : Int) := Int.ediv_nonneg hy0 (by omega)
      have hx1 : T.getD (p % T.length) 0 * (q : Int) / (m : Int) ≤ T.getD (p % T.length) 0 * (q : Int) := Int.ediv_le_self _ hy0
      have htd0 : Int.tdiv (T.getD (p % T.length) 0 * (q : Int)) (m : Int) = T.getD (p % T.length) 0 * (q : Int) / (m : Int) := Int.tdiv_eq_ediv_of_nonneg hy0
      generalize chX T m (p, q) = x at *
      go_upto_region 5 with fail
      have HX3 : Hid (XW w.heap.size w2.heap.size w w2 n v ((G.take k).map (chX T m)) (wr.alloc (.cells #[.int .i64 (p : Int), .int .i64 (q : Int)] 73))) := HX.out.on (below1 wr _)
      have HG3 : Hid ((wr.alloc (.cells #[.int .i64 (p : Int), .int .i64 (q : Int)] 73)).heap[wr.heap.size]? = some (.cells #[.int .i64 (p : Int), .int .i64 (q : Int)] 73 (0, 0))) := heap_alloc_new wr _
      have hgb : w2.heap.size ≤ wr.heap.size := HX.out.size
      clear x1 x2 HX
      generalize (wr.alloc (.cells #[.int .i64 (p : Int), .int .i64 (q : Int)] 73)) = W3 at *
      generalize wr.heap.size = gb at *
      obtain ⟨y1, y2, _⟩ := cells_two HG3.out
      obtain ⟨b1, b2, _⟩ := cells_two HX3.out.box
      have HQ3 := Lib.hid (HQ.out W3 p (by omega) ((HT.out.below HX3.out.below).mono HX3.out.below.size))
      generalize hzz : T.getD (p % T.length) 0 = z at *
      clear hzz
      generalize hyy : z * (q : Int) = y at *
      rw [← hqx] at hx0 hx1 htd0
      have hdv : y / (m : Int) = x := hqx.symm
      have m0 : ((m : Int) == 0) = false := by rw [beq_eq_false_iff_ne]; omega
      have m0' : ¬ ((m : Int) = 0) := by omega
      have m0'' : ¬ (m = 0) := by omega
      have hwy : IntKind.i64.wrap y = y := IntWalk.i64_in _ (by omega)
      have hwx : IntKind.i64.wrap x = x := IntWalk.i64_in _ (by omega)
      have htl : (G.take k).length ≤ 8 := by rw [List.length_take]; omega
      clear hqx
      go_wp2_with (first
        | (go_at_call 58; ((with_reducible refine HQ3.out.mono ?_); rintro e w5 ⟨rfl, hb5⟩; have HX5 := Lib.hid (HX3.out.on hb5); have HG5 := Lib.hid (block_below HG3.out hb5); clear hb5))
        | fail)
      have HHd : Hid (∀ V, XW w.heap.size w2.heap.size w w2 n v ((G.take k).map (chX T m)) V → V.heap[gb]? = some (.cells #[.int .i64 (p : Int), .int .i64 (q : Int)] 73 (0, 0)) → V.cell? ⟨w.heap.size + 1, 1, none⟩ = some v ∧ V.cell? ⟨gb, 1, none⟩ = some (.int .i64 (q : Int))) := fun V h1 h2 => ⟨(cells_two h1.box).2.1, (cells_two h2).2.1⟩
      have HXd := Lib.hid HX5.out.drew
      have HGd : Hid (w5.drew.heap[gb]? = some (.cells #[.int .i64 (p : Int), .int .i64 (q : Int)] 73 (0, 0))) := HG5.out
      clear y1 y2 b1 b2 HX3 HG3 HX5 HG5
      go_upto_region 6 with fail
      obtain ⟨wd, hwd⟩ : ∃ wd, wd = w5.drew := ⟨_, rfl⟩
      rw [← hwd] at HXd HGd
      refine region_E 9 (fun w' => w'.cell? ⟨w.heap.size + 1, 1, none⟩ = some v ∧ w'.cell? ⟨gb, 1, none⟩ = some (.int .i64 (q : Int))) (by kernel_rfl) ?_
      rw [← hwd]
      clear hwd
      have hHeld := HHd.out wd HXd.out HGd.out
      refine take_E (n := 9) (i := 0) (v := ?vtt_0) rfl (by kernel_rfl) (fun _ _ _ h => h) ?hytt_0 (by rfl) hHeld ?resttt_0
      case hytt_0 => (intro w9 hSw; (try dsimp only at hSw); go_simp <;> with_reducible rfl)
      (try simp only [List.getElem_toArray, List.getElem_cons_zero, List.getElem_cons_succ, Act.put, List.setIfInBounds_toArray, List.set_cons_zero, List.set_cons_succ])
      refine take_E (n := 9) (i := 1) (v := ?vtt_1) rfl (by kernel_rfl) (fun _ _ _ h => h) ?hytt_1 (by rfl) hHeld ?resttt_1
      case hytt_1 => (intro w9 hSw; (try dsimp only at hSw); go_simp <;> with_reducible rfl)
      (try simp only [List.getElem_toArray, List.getElem_cons_zero, List.getElem_cons_succ, Act.put, List.setIfInBounds_toArray, List.set_cons_zero, List.set_cons_succ])
      refine take_E (n := 9) (i := 2) (v := ?vtt_2) rfl (by kernel_rfl) (fun _ _ _ h => h) ?hytt_2 (by rfl) hHeld ?resttt_2
      case hytt_2 => (intro w9 hSw; (try dsimp only at hSw); go_simp <;> with_reducible rfl)
      (try simp only [List.getElem_toArray, List.getElem_cons_zero, List.getElem_cons_succ, Act.put, List.setIfInBounds_toArray, List.set_cons_zero, List.set_cons_succ])
      refine take_E (n := 9) (i := 3) (v := ?vtt_3) rfl (by kernel_rfl) (fun _ _ _ h => h) ?hytt_3 (by rfl) hHeld ?resttt_3
      case hytt_3 => (intro w9 hSw; (try dsimp only at hSw); go_simp <;> with_reducible rfl)
      (try simp only [List.getElem_toArray, List.getElem_cons_zero, List.getElem_cons_succ, Act.put, List.setIfInBounds_toArray, List.set_cons_zero, List.set_cons_succ])
      refine take_E (n := 9) (i := 4) (v := ?vtt_4) rfl (by kernel_rfl) (fun _ _ _ h => h) ?hytt_4 (by rfl) hHeld ?resttt_4
      case hytt_4 => (intro w9 hSw; (try dsimp only at hSw); go_simp <;> with_reducible rfl)
      (try simp only [List.getElem_toArray, List.getElem_cons_zero, List.getElem_cons_succ, Act.put, List.setIfInBounds_toArray, List.set_cons_zero, List.set_cons_succ])
      refine take_E (n := 9) (i := 5) (v := ?vtt_5) rfl (by kernel_rfl) (fun _ _ _ h => h) ?hytt_5 (by rfl) hHeld ?resttt_5
      case hytt_5 => (intro w9 hSw; (try dsimp only at hSw); go_simp <;> with_reducible rfl)
      (try simp only [List.getElem_toArray, List.getElem_cons_zero, List.getElem_cons_succ, Act.put, List.setIfInBounds_toArray, List.set_cons_zero, List.set_cons_succ])
      refine take_E (n := 9) (i := 6) (v := ?vtt_6) rfl (by kernel_rfl) (fun _ _ _ h => h) ?hytt_6 (by rfl) hHeld ?resttt_6
      case hytt_6 => (intro w9 hSw; (try dsimp only at hSw); go_simp <;> with_reducible rfl)
      (try simp only [List.getElem_toArray, List.getElem_cons_zero, List.getElem_cons_succ, Act.put, List.setIfInBounds_toArray, List.set_cons_zero, List.set_cons_succ])
      refine take_E (n := 9) (i := 7) (v := ?vtt_7) rfl (by kernel_rfl) (fun _ _ _ h => h) ?hytt_7 (by rfl) hHeld ?resttt_7
      case hytt_7 => (intro w9 hSw; (try dsimp only at hSw); go_simp <;> with_reducible rfl)
      (try simp only [List.getElem_toArray, List.getElem_cons_zero, List.getElem_cons_succ, Act.put, List.setIfInBounds_toArray, List.set_cons_zero, List.set_cons_succ])
      refine one_E (n := 9) (i := 8) (by kernel_rfl) rfl (fun K hK => ?_)
      go_simp
      refine hK.out _ _ (fun _ => HHd.out _ (HXd.out.on (below1 wd _)) (block_alloc HGd.out _)) (fun hHeld8 => ?_)
      clear hK K
      (try simp only [List.getElem_toArray, List.getElem_cons_zero, List.getElem_cons_succ, Act.put, List.setIfInBounds_toArray, List.set_cons_zero, List.set_cons_succ])
      refine one_E (n := 9) (i := 9) (by kernel_rfl) rfl (fun K hK => ?_)
      refine step_append_lies _ (by rfl) _ _ _ (by rfl) w2.heap.size 3 i0 _ 1 8 Try.underlying23 hi0 z0 z1 z2 rfl (by omega) v _ _ (by rfl) (HXd.out.on (below1 wd _)).own ⟨wd.heap.size, 0, none⟩ 1 1 [.int .i64 x] (by rfl) (by rfl) (World.news_of_block (cs := #[.int .i64 x]) (t := 3) (fr := (0, 0)) (heap_alloc_new wd _)) (by simp [Value.oneCell']) (by omega) (by simp; unfold maxLen; omega) (by simp; omega) (by have := HXd.out.size; simp; omega) (wd.heap.size + 1) (by simp) ?_
      intro gg cap' p2 hown2 hgrow hat hlt3
      obtain ⟨hbx, hxn⟩ := HXd.out.push hown2 hgrow
      have hlk : ((G.take k).map (chX T m)).length = k := by rw [List.length_map, List.length_take]; omega
      rw [hlk] at hxn
      have HXn := Lib.hid hxn
      obtain ⟨e1, e2, ef⟩ := cells_two hbx
      clear hown2 hgrow hat hxn hbx
      refine hK.out _ _ (fun h => absurd h (by decide)) (fun hHeld9 => ?_)
      clear hK K
      (try simp only [List.getElem_toArray, List.getElem_cons_zero, List.getElem_cons_succ, Act.put, List.setIfInBounds_toArray, List.set_cons_zero, List.set_cons_succ])
      refine one_E (n := 9) (i := 10) (by kernel_rfl) rfl (fun K hK => ?_)
      go_simp
      refine hK.out _ _ (fun h => absurd h (by decide)) (fun hHeld10 => ?_)
      clear hK K
      (try simp only [List.getElem_toArray, List.getElem_cons_zero, List.getElem_cons_succ, Act.put, List.setIfInBounds_toArray, List.set_cons_zero, List.set_cons_succ])
      refine one_E (n := 9) (i := 11) (by kernel_rfl) rfl (fun K hK => ?_)
      go_simp
      refine hK.out _ _ (fun h => absurd h (by decide)) (fun hHeld11 => ?_)
      clear hK K
      (try simp only [List.getElem_toArray, List.getElem_cons_zero, List.getElem_cons_succ, Act.put, List.setIfInBounds_toArray, List.set_cons_zero, List.set_cons_succ])
      refine done_E (by kernel_rfl) ?_ _
      go_wp2
      go_roundw
      case rel => exact ⟨k + 1, _, by go_num, by omega, by rw [HN.out]; exact HXn.out⟩
      case measure => simp [intOf]; omega
    · obtain rfl : k = G.length := by omega
      have hk3 : ¬ (G.length : Int) < (G.length : Int) := by omega
      have HE := Lib.hid HP.out
      rw [HE.out] at HX
      obtain ⟨A0, l0, c0, rfl⟩ := ownsRow_slice HX.out.own
      obtain ⟨e0, e1, ef⟩ := cells_two HX.out.box
      have HRr := Lib.hid ((HX.out.keep w.heap.size (by omega) (by omega)).trans HR2.out)
      obtain ⟨r0, r1, rf⟩ := cells_two HRr.out
      have HRs := Lib.hid (two_setC HRr.out (.int .i64 (n : Int)) (.slice A0 l0 c0))
      obtain ⟨s0, s1, sf⟩ := cells_two HRs.out
      have HO := Lib.hid (own_base (show w.heap.size + 2 ≤ w2.heap.size by omega) (ownsRow_setCell_below (ownsRow_setCell_below HX.out.own (a := ⟨w.heap.size, 0, none⟩) (by show w.heap.size < w2.heap.size; omega) (.int .i64 (n : Int))) (a := ⟨w.heap.size, 1, none⟩) (by show w.heap.size < w2.heap.size; omega) (.slice A0 l0 c0)))
      have HBe := Lib.hid ((HX.out.below.setCell (p := ⟨w.heap.size, 0, none⟩) (Nat.le_refl _) (.int .i64 (n : Int))).setCell (p := ⟨w.heap.size, 1, none⟩) (Nat.le_refl _) (.slice A0 l0 c0))
      go_wp2
      refine bodyPost_ret (v := .agg #[.int .i64 (n : Int), .slice A0 l0 c0]) ?_ rfl ⟨_, rfl, HO.out, HBe.out⟩
      simp [results, Try.results59, go_sem, s0, s1]
theorem exL_ok : ∀ (E : List Int) (L : List (Nat × Nat)), exL E L = 0 → ∀ k (h1 : k < E.length) (h2 : k < L.length), 0 ≤ E[k] ∧ E[k] < (L[k].2 : Int)
  | [], _, _, k, h1, _ => by simp at h1
  | _ :: _, [], _, k, _, h2 => by simp at h2
  | x :: E, g :: L, h, k, h1, h2 => by
    by_cases hx : 0 ≤ x ∧ x < (g.2 : Int)
    · rw [exL_hit hx] at h
      rcases k with _ | k
      · exact hx
      · exact exL_ok E L h k (by simpa using h1) (by simpa using h2)
    · rw [exL_miss hx] at h
      cases h
theorem ck_ok {n : Nat} {E : List Int} (h : ckX n E = 0) : E.length = (gensV n).length ∧ ∀ k (h1 : k < E.length) (h2 : k < (gensV n).length), 0 ≤ E[k] ∧ E[k] < ((gensV n)[k].2 : Int) := by
  unfold ckX at h
  by_cases hl : E.length = (gensV n).length
  · rw [if_pos hl] at h; exact ⟨hl, exL_ok _ _ h⟩
  · rw [if_neg hl] at h; cases h
/-- A row of integers reads as its list. -/
theorem row_rdz {w : World} {b n : Nat} {T : List Int} (h : w.rowIs b 3 n (fun j => .int .i64 (T.getD j 0))) (hl : T.length = n) (hn : n ≤ 1000) : RdZ w w.heap.size (some ⟨b, 0, none⟩) n T := by
  refine ⟨by omega, by unfold maxLen; omega, fun _ => ⟨b, 0, rfl, h.lt, fun k hk => ?_⟩, fun a ha => by cases ha; exact ⟨_, _, rfl⟩⟩
  have h1 := h.cell (i := k) (by omega)
  rw [Nat.zero_add, h1, List.getD_eq_getElem?_getD, List.getElem?_eq_getElem hk]; rfl
set_option maxHeartbeats 1600000 in
/-- tableOf, in the words of its readers. -/
theorem tabr_any (n : Nat) (E : List Int) (A : Option Addr) (c : Nat) (w : World) (n1 : 1 ≤ n) (n2 : (n : Int) ≤ 60) (hE : RdZ w w.heap.size A c E) (hck : ckX n E = 0) :
    Calls Try.prog 53 #[.agg #[.int .i64 (n : Int), .slice A E.length c]] w fun e w' => ∃ lb, e = .returned (.agg #[.slice (some ⟨lb, 0, none⟩) (tbV n E).length n, .int .i64 (tbM (gensV n) : Nat)]) ∧ RdZ w' w'.heap.size (some ⟨lb, 0, none⟩) n (tbV n E) ∧ (tbV n E).length = n ∧ (∀ j, -1 ≤ (tbV n E).getD j 0 ∧ (tbV n E).getD j 0 < (tbM (gensV n) : Int)) ∧ Below w.heap.size w w' := by
  obtain ⟨h1, h2⟩ := ck_ok hck
  refine (tabof_any n E A c w n1 n2 hE h1 h2).mono fun e w' ⟨lb, he, hb, hr, hl, hd, hbl⟩ => ⟨lb, by rw [hl]; exact he, row_rdz hr hl (by omega), hl, hd, hbl⟩
set_option maxHeartbeats 3200000 in
set_option maxRecDepth 1000000 in
theorem ext_any (N n : Nat) (E : List Int) (A : Option Addr) (c : Nat) (w : World) (N1 : 1 ≤ N) (N2 : (N : Int) ≤ 60) (n1 : 1 ≤ n) (n2 : (n : Int) ≤ 60) (hE : RdZ w w.heap.size A c E) (hck : ckX N E = 0) (hd : n % N = 0) (hg : ∀ g ∈ gensV n, 0 ≤ (tbV N E).getD (g.1 % N) 0) :
    Calls Try.prog 41 #[.agg #[.int .i64 (N : Int), .slice A E.length c], .int .i64 (n : Int)] w fun e w' => ∃ v, e = .returned (.tuple #[.agg #[.int .i64 (n : Int), v], .int .i64 0]) ∧ w'.ownsRow w.heap.size 3 1 v (chE (tbV N E) (tbM (gensV N)) n).length (zs (chE (tbV N E) (tbM (gensV N)) n)) ∧ Below w.heap.size w w' := by
  have hmf : ∀ (fn : Fn) (first cap : Array Value) (w : World), (Instr.makeFunc fn first cap).run Try.prog w = .ok (.func fn first cap) w := fun _ _ _ _ => rfl
  have HCk := Lib.hid (fun (W : World) (h : RdZ W W.heap.size A c E) => dck_any N E A c W N1 N2 h)
  rw [hck] at HCk
  have HM := Lib.hid (fun W => ismod_any (n : Int) W)
  rw [decide_eq_true ⟨by omega, n2⟩] at HM
  have HTb := Lib.hid (fun (W : World) (h : RdZ W W.heap.size A c E) => tabr_any N E A c W N1 N2 h hck)
  have hM := (tbc_le N1 (show N ≤ 60 by omega)).2 (gensV N).length (Nat.le_refl _)
  rw [List.take_length] at hM
  have HCh := Lib.hid (fun (T : List Int) (m : Nat) (A1 : Option Addr) (c1 : Nat) (W : World) h1 h2 h3 h4 h5 h6 => chart_any T m n A1 c1 W n1 n2 h1 h2 h3 h4 h5 h6)
  have HGg := Lib.hid hg
  have htm : Int.tmod (n : Int) (N : Int) = 0 := by
    have := (Int.ofNat_tmod n N).symm
    rw [hd] at this; exact this
  have hem : (n : Int) % (N : Int) = 0 := by
    have := (Int.natCast_emod n N).symm
    rw [hd] at this; exact this
  have N0 : ((N : Int) == 0) = false := by rw [beq_eq_false_iff_ne]; omega
  have N0' : ¬ ((N : Int) = 0) := by omega
  have N0'' : ¬ (N = 0) := by omega
  have X0 : Hid (((w.alloc (.cells #[.int .i64 (N : Int), .slice A E.length c] 33)).alloc (.cells #[.int .i64 0, .slice none 0 0] 33)).heap[w.heap.size]? = some (.cells #[.int .i64 (N : Int), .slice A E.length c] 33 (0, 0))) := block_alloc (heap_alloc_new w _) _
  have R0 : Hid (((w.alloc (.cells #[.int .i64 (N : Int), .slice A E.length c] 33)).alloc (.cells #[.int .i64 0, .slice none 0 0] 33)).heap[w.heap.size + 1]? = some (.cells #[.int .i64 0, .slice none 0 0] 33 (0, 0))) := by
    have := heap_alloc_new (w.alloc (.cells #[.int .i64 (N : Int), .slice A E.length c] 33)) (.cells #[.int .i64 0, .slice none 0 0] 33)
    show _ = _; simpa using this
  have B0 : Hid (Below w.heap.size w ((w.alloc (.cells #[.int .i64 (N : Int), .slice A E.length c] 33)).alloc (.cells #[.int .i64 0, .slice none 0 0] 33))) := below2 w _ _
  have HE0 : Hid (∀ W, Below w.heap.size w W → RdZ W W.heap.size A c E) := fun W hW => (hE.below hW).mono hW.size
  obtain ⟨x0, x1, _⟩ := cells_two X0.out
  clear hE hck hg hd
  generalize tbV N E = T at *
  generalize tbM (gensV N) = m at *
  go_enter Try.func41, Try.ntmps41
  go_wp2_with (first
    | (go_at_call 24; ((with_reducible refine (HCk.out _ (HE0.out _ B0.out)).mono ?_); rintro e w1 ⟨rfl, hb⟩; have X1 := Lib.hid (block_below X0.out hb); have R1 := Lib.hid (block_below R0.out hb); have B1 := Lib.hid (B0.out.trans (hb.mono B0.out.size)); obtain ⟨y0, y1, _⟩ := cells_two X1.out; clear hb x0 x1))
    | (go_at_call 46; ((with_reducible refine (HM.out _).mono ?_); rintro e w2 ⟨rfl, rfl⟩))
    | (go_at_call 53; ((with_reducible refine (HTb.out _ (HE0.out _ B1.out)).mono ?_); rintro e w3 ⟨lb, rfl, hr, hl, hbd, hb⟩; have HR := Lib.hid hr; have HL := Lib.hid hl; have HBd := Lib.hid hbd; have R3 := Lib.hid (block_below R1.out hb); have B3 := Lib.hid (B1.out.trans (hb.mono B1.out.size)); clear hb hr hl hbd))
    | (go_at_call 59; ((with_reducible refine (HCh.out T m _ _ _ hM.1 hM.2 (by rw [HL.out]; exact N1) (by rw [HL.out]; omega) HR.out (fun g hg => by rw [HL.out]; exact ⟨HGg.out g hg, by have := (HBd.out (g.1 % N)).2; omega⟩)).mono ?_); rintro e w4 ⟨v, rfl, ho, hb⟩; obtain ⟨A0, l0, cc0, rfl⟩ := ownsRow_slice ho; have HO := Lib.hid ho; have B4 := Lib.hid (B3.out.trans (hb.mono B3.out.size)); have R4 := Lib.hid (block_below R3.out hb); obtain ⟨r0, r1, rf⟩ := cells_two R4.out; clear hb ho))
    | fail)
  have hs1 := lt_of_block R3.out
  have hO2 := own_base (show w.heap.size + 2 ≤ w3.heap.size + 2 by omega) HO.out
  have R5 := Lib.hid (two_setC R4.out (.int .i64 (n : Int)) (.slice A0 l0 cc0))
  obtain ⟨s0, s1, sf⟩ := cells_two R5.out
  have HO2 := Lib.hid (own_base (show w.heap.size ≤ w.heap.size + 2 by omega) (ownsRow_setCell_below (ownsRow_setCell_below hO2 (a := ⟨w.heap.size + 1, 0, none⟩) (by show w.heap.size + 1 < w.heap.size + 2; omega) (.int .i64 (n : Int))) (a := ⟨w.heap.size + 1, 1, none⟩) (by show w.heap.size + 1 < w.heap.size + 2; omega) (.slice A0 l0 cc0)))
  have HB5 := Lib.hid ((B4.out.setCell (p := ⟨w.heap.size + 1, 0, none⟩) (by show w.heap.size ≤ w.heap.size + 1; omega) (.int .i64 (n : Int))).setCell (p := ⟨w.heap.size + 1, 1, none⟩) (by show w.heap.size ≤ w.heap.size + 1; omega) (.slice A0 l0 cc0))
  refine bodyPost_ret (v := .tuple #[.agg #[.int .i64 (n : Int), .slice A0 l0 cc0], .int .i64 0]) ?_ rfl ⟨_, rfl, HO2.out, HB5.out⟩
  simp [results, Try.results41, go_sem, s0, s1]
end Go.Proofs.Ytdbleaalpdemnaa
